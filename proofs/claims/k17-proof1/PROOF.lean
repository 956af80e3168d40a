import PyProof.Rows.All
import Wide.All
import OpenK.AllK
import Wide.FinOn
import Lean
import PyProof.EqAt
import PyProof.EqKinds
import PyProof.TupleCall
import PyProof.Rows.SortShellK
import KE.KSortTup
import KE.KDictList
import OpenK.KOwn
import PyProof.Rows.FStr
import PyProof.FString
import PyProof.ExcBaseAll.ValueError
import PyProof.RulesAs
import PyProof.RulesDel
import PyProof.ExcArgsOwn
import PyProof.IsiBase
import PyProof.ExcAttrAll.ValueError
import PyProof.DictFindH
import PyProof.MeetsDictList
import PyProof.Rows.Range3
import KE.KDictLaws
import PyProof.ZipIter
import KE.KIntText
import PyProof.Rows.StrWeight2
import PyProof.Rows.StrSplitAre
import PyProof.StrLawsTight
import PyProof.FString4
import PyProof.StrLawsRepr
import PyProof.StrOps2
import PyProof.StrBlockG
import PyProof.StrLawsNeg
import PySem.Challenge.RW_twinrooms_k17_notes_refused
set_option Elab.async false
set_option linter.all false
set_option maxRecDepth 100000
set_option maxHeartbeats 8000000
namespace L2
open PySem PySem.Spec PyProof.Rows
abbrev Key:=Sum Int Str
def keyIs:Key->Value->Bool
 | .inl k,v=>Value.isInt k v
 | .inr x,v=>Value.isStrOf x v
def keyH (w:World):Key->Int
 | .inl k=>hashInt k
 | .inr x=>hashStr w x
theorem keyIs_shape:∀ {k:Key} {v:Value},keyIs k v=true->(∃ i t,k=Sum.inl i/\v=Value.int i t)\/(∃ x t,k=Sum.inr x/\v=Value.str x t)
 | .inl i,v,h=>by
  obtain⟨t,e⟩:=Value.isInt_shape (k:=i) (v:=v) h
  exact .inl ⟨i,t,rfl,e⟩
 | .inr x,v,h=>by
  obtain⟨t,e⟩:=Value.isStrOf_shape (x:=x) (v:=v) h
  exact .inr ⟨x,t,rfl,e⟩
theorem keyIs_int (i:Int) (t:Tok):keyIs (.inl i) (.int i t)=true:=by simp[keyIs,Value.isInt]
theorem keyIs_str (x:Str) (t:Tok):keyIs (.inr x) (.str x t)=true:=by simp[keyIs,Value.isStrOf]
theorem key_ll (a b:Int):decide ((Sum.inl a:Key)=Sum.inl b)=(a == b):=by
 by_cases e:a=b
 ·subst e; simp
 ·have h:¬ (Sum.inl a:Key)=Sum.inl b:=fun q=>e (Sum.inl.inj q)
  rw[decide_eq_false h]
  exact (beq_eq_false_iff_ne.mpr e).symm
theorem key_rr (a b:Str):decide ((Sum.inr a:Key)=Sum.inr b)=decide (a=b):=by
 by_cases e:a=b
 ·subst e; simp
 ·have h:¬ (Sum.inr a:Key)=Sum.inr b:=fun q=>e (Sum.inr.inj q)
  rw[decide_eq_false h,decide_eq_false e]
theorem key_lr (a:Int) (b:Str):decide ((Sum.inl a:Key)=Sum.inr b)=false:=decide_eq_false (fun q=>nomatch q)
theorem key_rl (a:Str) (b:Int):decide ((Sum.inr a:Key)=Sum.inl b)=false:=decide_eq_false (fun q=>nomatch q)
def mixKind (prog:Program) (w:World):PySem.KeyKind prog w Key where
 is:=keyIs
 hash:=keyH w
 inj:=fun v a b ha hb=>by
  rcases keyIs_shape ha with ⟨i,t,rfl,rfl⟩ | ⟨x,t,rfl,rfl⟩
  ·rcases keyIs_shape hb with ⟨j,u,rfl,e⟩ | ⟨y,u,rfl,e⟩
   ·injection e with e1 _; rw[e1]
   ·exact nomatch e
  ·rcases keyIs_shape hb with ⟨j,u,rfl,e⟩ | ⟨y,u,rfl,e⟩
   ·exact nomatch e
   ·injection e with e1 _; rw[e1]
 byValue:=fun k v h=>by
  rcases keyIs_shape h with ⟨i,t,rfl,rfl⟩ | ⟨x,t,rfl,rfl⟩ <;> rfl
 pyHash:=fun hv h=>by
  rcases keyIs_shape hv with ⟨i,t,rfl,rfl⟩ | ⟨x,t,rfl,rfl⟩
  ·exact wpAny_pyHash_int h
  ·exact wpAny_pyHash_str h
 eqBool:=fun hu hv h=>by
  rcases keyIs_shape hu with ⟨i,t,rfl,rfl⟩ | ⟨x,t,rfl,rfl⟩
  ·rcases keyIs_shape hv with ⟨j,u,rfl,rfl⟩ | ⟨y,u,rfl,rfl⟩
   ·rw[key_ll] at h; exact wpAny_eqBool_int h
   ·rw[key_lr] at h; exact SeqAt.EqAt.int_str i t y u _ _ _ _ h
  ·rcases keyIs_shape hv with ⟨j,u,rfl,rfl⟩ | ⟨y,u,rfl,rfl⟩
   ·rw[key_rl] at h; exact SeqAt.EqAt.str_int x t j u _ _ _ _ h
   ·rw[key_rr] at h; exact wpAny_eqBool_str h
 «strs»:=fun k x t v h=>by
  rcases keyIs_shape h with ⟨i,u,rfl,e⟩ | ⟨y,u,rfl,e⟩
  ·exact nomatch e
  ·injection e with e1 _
   subst e1
   cases v <;> rfl
theorem mixKind_int (prog:Program) (w:World) (i:Int) (t:Tok):(mixKind prog w).is (.inl i) (.int i t)=true:=keyIs_int i t
theorem mixKind_str (prog:Program) (w:World) (x:Str) (t:Tok):(mixKind prog w).is (.inr x) (.str x t)=true:=keyIs_str x t
end L2
namespace L2
open PySem PySem.Spec PyProof.Rows
inductive V where
 | non | bl (b:Bool) | int (i:Int) | str (x:Str) | byt (b:Array UInt8) | flt (b:UInt64) | ref (a:Addr) | ty (n:String)
 deriving DecidableEq
def RelV:V->Value->Prop
 | .non,u=>u=Value.none
 | .bl b,u=>u=Value.bool b
 | .int i,u=>∃ t,u=Value.int i t
 | .str x,u=>∃ t,u=Value.str x t
 | .byt b,u=>∃ t,u=Value.bytes b t
 | .flt b,u=>∃ t,u=Value.float b t
 | .ref a,u=>u=Value.ref a
 | .ty n,u=>u=Value.type n
abbrev Vals:List V->List Value->Prop:=Paired RelV
theorem Vals.length {xs:List V} {us:List Value} (r:Vals xs us):xs.length=us.length:=Paired.length r
theorem Vals.get:∀ {xs:List V} {us:List Value} {i:Nat} {x:V},Vals xs us->xs[i]?=some x->∃ u,us[i]?=some u/\RelV x u
 | _,_,_,_,.nil,e=>by simp at e
 | _,_,0,_,.cons r _,e=>by simp at e; subst e; exact⟨_,rfl,r⟩
 | _,_,i+1,x,.cons _ t,e=>by
  obtain⟨u,h1,h2⟩:=Vals.get (i:=i) (x:=x) t (by simpa using e)
  exact⟨u,by simpa using h1,h2⟩
theorem Vals.append:∀ {xs ys:List V} {us ws:List Value},Vals xs us->Vals ys ws->Vals (xs++ys) (us++ws)
 | _,_,_,_,.nil,s=>s
 | _,_,_,_,.cons r t,s=>.cons r (Vals.append t s)
theorem Vals.take:∀ {xs:List V} {us:List Value} (n:Nat),Vals xs us->Vals (xs.take n) (us.take n)
 | _,_,0,_=>.nil
 | _,_,_+1,.nil=>.nil
 | _,_,n+1,.cons r t=>.cons r (Vals.take n t)
theorem Vals.drop:∀ {xs:List V} {us:List Value} (n:Nat),Vals xs us->Vals (xs.drop n) (us.drop n)
 | _,_,0,r=>r
 | _,_,_+1,.nil=>.nil
 | _,_,n+1,.cons _ t=>Vals.drop n t
def RelO:Option V->Option Value->Prop
 | some v,some u=>RelV v u
 | none,none=>True
 | _,_=>False
def KV {κ:Type}:List (κ×V)->List (κ×Value)->Prop:=Paired fun (p:κ×V) (q:κ×Value)=>p.1=q.1/\RelV p.2 q.2
def kV:Key->V
 | .inl i=>.int i
 | .inr x=>.str x
inductive HO where
 /-- a list -/
 | lst (xs:List V)
 /-- a tuple (never changes) -/
 | tup (xs:List V)
 /-- a dict whose keys are ints and texts; one whose keys are tuples of ints and texts (the empty one is both) -/
 | dK (kvs:List (Key×V)) | dT (kvs:List (List Key×V))
 /-- a set of ints: its members,its size -/
 | set (S:Int->Bool) (n:Nat)
 /-- an instance of the class at C,its dict at dx,its attributes -/
 | ins (C dx:Addr) (fs:List (Str×V))
 /-- the dict of the instance at x -/
 | own (x:Addr)
 /-- the dict of an exception -/
 | xd (fs:List (Str×V))
 /-- a bound method,f of x -/
 | met (f x:Addr)
 /-- a range object lo,lo+1,.. below hi -/
 | rng (lo hi:Int)
 /-- a thing that is known to the object (the script; a dict while a loop walks it): read,never written while it is so -/
 | frz (o:Obj) (u:HO)
 /-- a code object's table -/
 | tbl (ps:Array Value)
 /-- any other thing,by what is true of its one object (a def of one's own: SetO a S n:=HO.ext fun h=>..) -/
 | ext (φ:Heap->Prop)
abbrev Hp:=Addr->Option HO
def upd (H:Hp) (a:Addr) (o:HO):Hp:=fun b=>if b=a then some o else H b
theorem upd_same {H:Hp} {a:Addr} {o:HO}:upd H a o a=some o:=by unfold upd; rw[if_pos rfl]
theorem upd_ne {H:Hp} {a b:Addr} {o:HO} (h:b≠a):upd H a o b=H b:=by unfold upd; rw[if_neg h]
theorem upd_upd {H:Hp} {a:Addr} {o u:HO}:upd (upd H a o) a u=upd H a u:=by
 funext b; unfold upd; split <;> rfl
theorem ne_of {H:Hp} {a b:Addr} {o u:HO} (h:H a=some o) (h':H b=some u) (d:o≠u):a≠b:=by
 intro e; subst e; rw[h] at h'; exact d (Option.some.inj h')
theorem ne_of_none {H:Hp} {a b:Addr} {o:HO} (h:H a=some o) (h':H b=none):a≠b:=by
 intro e; subst e; rw[h] at h'; cases h'
section
variable (P:Program) (w:World)
def ObjOk (H:Hp) (h:Heap) (a:Addr):HO->Prop
 | .lst xs=>xs.length<=sizeLine/\∃ (its:List Value) (n:Nat),Vals xs its/\h.get? a=some { cls:=.type "list",data:=.seq its.toArray n }
 | .tup xs=>xs.length<=sizeLine/\∃ its:List Value,Vals xs its/\IsTup h a its.toArray
 | .dK kvs=>kvs.length<=sizeLine/\(a == sysModules)=false/\∃ vs,KV kvs vs/\h.DictOf (mixKind P w) a vs
 | .dT kvs=>kvs.length<=sizeLine/\(a == sysModules)=false/\∃ xs:List (List Key×Addr×Value),
   Paired (fun (p:List Key×V) (q:List Key×Addr×Value)=>p.1=q.1/\H q.2.1=some (.tup (p.1.map kV))/\RelV p.2 q.2.2) kvs xs /\
   ∃ o es ep,h.get? a=some o/\o.ExactDict/\o.data=.dict es ep/\es.toList=xs.map (entryOfKey (tupleKind (mixKind P w)))/\(xs.map (·.1)).Nodup
 | .set S n=>h.SetOf (intKind P w) a S n
 | .ins C dx fs=>H dx=some (.own a)/\fs.length<=1000/\dx≠a/\h.get? a=some (PySem.W.instObj C dx) /\
   ∃ mA,h.Ns1 dx mA/\(∀ f,RelO (fs.lookup f) (mA f))/\PySem.Within mA (fs.map (·.1))
 | .own _=>∃ o,h.get? a=some o
 | .xd fs=>∃ mA,h.Ns1 a mA/\∀ f,RelO (fs.lookup f) (mA f)
 | .rng lo hi=>∃ t u v,h.get? a=some { cls:=.type "range",data:=.fields #[.int lo t,.int hi u,.int 1 v] }
 | .frz o u=>h.get? a=some o/\ObjOk H h a u
 | .tbl ps=>h.get? a=some { cls:=.none,data:=.fields ps }
 | .met f x=>h.get? a=some (PySem.W.methodObj (.ref f) (.ref x))
 | .ext φ=>φ h/\(∃ o,h.get? a=some o)/\∀ h1 h2:Heap,φ h1->(∀ o,h1.get? a=some o->h2.get? a=some o)->φ h2
def HOk (H:Hp) (h:Heap):Prop:=∀ a o,H a=some o->ObjOk P w H h a o
end
section
variable {P:Program} {w:World} {H H':Hp} {h h':Heap} {a:Addr} {o:HO}
theorem ObjOk.lt (x:ObjOk P w H h a o):a<h.objs.size:=by
 cases o with
 | lst xs=>obtain⟨_,_,_,_,e⟩:=x; exact Heap.lt_size e
 | tup xs=>obtain⟨_,_,_,p⟩:=x; exact p.lt
 | dK kvs=>obtain⟨_,_,_,_,o,_,_,e,_⟩:=x; exact Heap.lt_size e
 | dT kvs=>obtain⟨_,_,_,_,o,_,_,e,_⟩:=x; exact Heap.lt_size e
 | set S n=>obtain⟨o,_,_,_,e,_⟩:=x; exact Heap.lt_size e
 | ins C dx fs=>obtain⟨_,_,_,e,_⟩:=x; exact Heap.lt_size e
 | own y=>obtain⟨_,e⟩:=x; exact Heap.lt_size e
 | xd fs=>obtain⟨_,⟨_,_,_,e,_⟩,_⟩:=x; exact Heap.lt_size e
 | rng lo hi=>obtain⟨_,_,_,e⟩:=x; exact Heap.lt_size e
 | frz ob u=>obtain⟨e,_⟩:=x; exact Heap.lt_size e
 | tbl ps=>exact Heap.lt_size (show h.get? a=some _ from x)
 | met f y=>exact Heap.lt_size (show h.get? a=some _ from x)
 | ext φ=>obtain⟨_,⟨_,e⟩,_⟩:=x; exact Heap.lt_size e
theorem Paired.mapP {α β:Type} {F G:α->β->Prop}:∀ {l₁:List α} {l₂:List β},Paired F l₁ l₂->(∀ a b,F a b->G a b)->Paired G l₁ l₂
 | _,_,.nil,_=>.nil
 | _,_,.cons r t,f=>.cons (f _ _ r) (Paired.mapP t f)
theorem ObjOk.stay (x:ObjOk P w H h a o) (k:∀ b u,(b=a\/H b=some (.own a))->h.get? b=some u->h'.get? b=some u)
  (ho:∀ b,H b=some (.own a)->H' b=some (.own a)) (ht:∀ b xs,H b=some (.tup xs)->H' b=some (.tup xs)):ObjOk P w H' h' a o:=by
 induction o with
 | lst xs=>obtain⟨z,its,n,r,e⟩:=x; exact⟨z,its,n,r,k _ _ (.inl rfl) e⟩
 | tup xs=>obtain⟨z,its,r,ob,e,c⟩:=x; exact⟨z,its,r,ob,k _ _ (.inl rfl) e,c⟩
 | dK kvs=>obtain⟨z,y,vs,r,ob,es,ep,e,c⟩:=x; exact⟨z,y,vs,r,ob,es,ep,k _ _ (.inl rfl) e,c⟩
 | dT kvs=>
  obtain⟨z,y,xs,r,ob,es,ep,e,c⟩:=x
  exact⟨z,y,xs,Paired.mapP r fun p q z=>⟨z.1,ht _ _ z.2.1,z.2.2⟩,ob,es,ep,k _ _ (.inl rfl) e,c⟩
 | set S n=>obtain⟨ob,es,ep,t,e,c⟩:=x; exact⟨ob,es,ep,t,k _ _ (.inl rfl) e,c⟩
 | ins C dx fs=>
  obtain⟨d,z,ne,e,mA,⟨od,es,ep,e2,c⟩,r⟩:=x
  exact⟨ho _ d,z,ne,k _ _ (.inl rfl) e,mA,⟨od,es,ep,k _ _ (.inr d) e2,c⟩,r⟩
 | own y=>obtain⟨ob,e⟩:=x; exact⟨ob,k _ _ (.inl rfl) e⟩
 | xd fs=>obtain⟨mA,⟨od,es,ep,e,c⟩,r⟩:=x; exact⟨mA,⟨od,es,ep,k _ _ (.inl rfl) e,c⟩,r⟩
 | rng lo hi=>obtain⟨t,u,v,e⟩:=x; exact⟨t,u,v,k _ _ (.inl rfl) e⟩
 | frz ob u ih=>obtain⟨e,q⟩:=x; exact⟨k _ _ (.inl rfl) e,ih q⟩
 | tbl ps=>
  have e:h.get? a=some { cls:=.none,data:=.fields ps }:=x
  show h'.get? a=some { cls:=.none,data:=.fields ps }
  exact k a _ (.inl rfl) e
 | met f y=>
  have e:h.get? a=some (PySem.W.methodObj (.ref f) (.ref y)):=x
  show h'.get? a=some (PySem.W.methodObj (.ref f) (.ref y))
  exact k a _ (.inl rfl) e
 | ext φ=>obtain⟨p,⟨o,e⟩,st⟩:=x; exact⟨st _ _ p fun o q=>k _ _ (.inl rfl) q,⟨o,k _ _ (.inl rfl) e⟩,st⟩
theorem HOk.lt (x:HOk P w H h) (e:H a=some o):a<h.objs.size:=(x a o e).lt
theorem HOk.fresh (x:HOk P w H h) (e:h.objs.size<=a):H a=none:=by
 cases q:H a with
 | none=>rfl
 | some u=>exact absurd (Nat.lt_of_lt_of_le (x.lt q) e) (Nat.lt_irrefl _)
theorem HOk.kept (x:HOk P w H h) (k:∀ b u,h.get? b=some u->h'.get? b=some u):HOk P w H h':=fun a o e=>
 (x a o e).stay (fun b u _ q=>k b u q) (fun _ q=>q) fun _ _ q=>q
theorem HOk.laid (x:HOk P w H h) (k:∀ b u,h.get? b=some u->h'.get? b=some u) (hp:h.objs.size<=a) (new:ObjOk P w (upd H a o) h' a o):HOk P w (upd H a o) h':=fun b u e=>by
 have hn:=x.fresh hp
 by_cases hb:b=a
 ·subst hb; rw[upd_same] at e; cases e; exact new
 ·rw[upd_ne hb] at e
  exact (x b u e).stay (fun c v _ q=>k c v q) (fun c q=>by rw[upd_ne (ne_of_none q hn)]; exact q) fun c xs q=>by rw[upd_ne (ne_of_none q hn)]; exact q
end
def Rd (H:Hp) (a:Addr) (u:HO):Prop:=H a=some u\/∃ o,H a=some (.frz o u)
theorem Rd.ok {P:Program} {w:World} {H:Hp} {h:Heap} {a:Addr} {u:HO} (r:Rd H a u) (x:HOk P w H h):ObjOk P w H h a u:=by
 rcases r with r | ⟨o,r⟩
 ·exact x a u r
 ·obtain⟨_,q⟩:=x a _ r
  exact q
def Mut:Option HO->Prop
 | some (.lst _)=>True
 | some (.dK _)=>True
 | some (.dT _)=>True
 | some (.set _ _)=>True
 | some (.ins _ _ _)=>True
 | some (.ext _)=>True
 | _=>False
section
variable {P:Program} {w:World} {H:Hp} {h h':Heap} {x e:Addr} {o':HO}
theorem HOk.write (ok:HOk P w H h) (mu:Mut (H x)) (he:e=x\/H e=some (.own x)) (k:∀ b u,b≠e->h.get? b=some u->h'.get? b=some u) (heo:∃ u,h'.get? e=some u)
  (new:ObjOk P w (upd H x o') h' x o'):HOk P w (upd H x o') h':=fun b u q=>by
 have nown:∀ c y,H c=some (.own y)->c≠x:=fun c y r z=>by subst z; rw[r] at mu; exact mu
 have ntup:∀ c xs,H c=some (.tup xs)->c≠x:=fun c xs r z=>by subst z; rw[r] at mu; exact mu
 by_cases hb:b=x
 ·subst hb; rw[upd_same] at q; cases q; exact new
 ·rw[upd_ne hb] at q
  by_cases hbe:b=e
  ·have q':H b=some (.own x):=by
    rcases he with z | z
    ·exact absurd (hbe.trans z) hb
    ·rw[hbe]; exact z
   rw[q] at q'; cases q'
   obtain⟨v,hv⟩:=heo
   exact⟨v,by rw[hbe]; exact hv⟩
  ·refine (ok b u q).stay (fun c v hc r=>k c v ?_ r) (fun c r=>by rw[upd_ne (nown c b r)]; exact r) fun c xs r=>by rw[upd_ne (ntup c xs r)]; exact r
   rcases hc with rfl | hc
   ·exact hbe
   ·rintro rfl
    rcases he with z | z
    ·exact nown c b hc z
    ·rw[hc] at z; cases z; exact hb rfl
end
structure Un (fs ex:List Addr) (H H':Hp) (h h':Heap):Prop where
 keep:∀ b o,h.get? b=some o->H b=none->b∉fs->b∉ex->h'.get? b=some o
 slot:∀ b o,h.get? b=some o->H b=none->b∈fs->b∉ex->∃ sl,h'.get? b=some { o with slots:=sl }
 free:∀ b o,h.get? b=some o->H b=none->b∉ex->H' b=none
 there:∀ b o,h.get? b=some o->b∉ex->∃ o',h'.get? b=some o'
 tups:∀ b xs,H b=some (.tup xs)->H' b=some (.tup xs)
 frzs:∀ b o u,H b=some (.frz o u)->H' b=some (.frz o u)
 tbls:∀ b ps,H b=some (.tbl ps)->∃ more,H' b=some (.tbl (ps++more))
section
variable {fs fs' ex ex':List Addr} {H H1 H2:Hp} {h h1 h2 h':Heap} {a x e:Addr} {o:HO}
theorem Un.any (u:Un fs ex H H1 h h1) {b:Addr} {ob:Obj} (q:h.get? b=some ob) (n:H b=none) (hx:b∉ex):∃ sl,h1.get? b=some { ob with slots:=sl }:=by
 by_cases hb:b∈fs
 ·exact u.slot b ob q n hb hx
 ·exact⟨ob.slots,u.keep b ob q n hb hx⟩
theorem Un.kept (k:∀ b u,h.get? b=some u->h'.get? b=some u):Un fs ex H H h h':=
 ⟨fun b ob q _ _ _=>k b ob q,fun b ob q _ _ _=>⟨ob.slots,k b ob q⟩,fun _ _ _ n _=>n,fun b ob q _=>⟨ob,k b ob q⟩,fun _ _ q=>q,fun _ _ _ q=>q,fun _ ps q=>⟨#[],by rw[q]; simp⟩⟩
theorem Un.refl:Un fs ex H H h h:=Un.kept fun _ _ q=>q
theorem Un.laid (k:∀ b u,h.get? b=some u->h'.get? b=some u) (hp:h.objs.size<=a) (hn:H a=none):Un fs ex H (upd H a o) h h' where
 keep:=fun b u q _ _ _=>k b u q
 slot:=fun b u q _ _ _=>⟨u.slots,k b u q⟩
 free:=fun b u q n _=>by rw[upd_ne (Nat.ne_of_lt (Nat.lt_of_lt_of_le (Heap.lt_size q) hp))]; exact n
 there:=fun b u q _=>⟨u,k b u q⟩
 tups:=fun b xs q=>by rw[upd_ne (ne_of_none q hn)]; exact q
 frzs:=fun b u xs q=>by rw[upd_ne (ne_of_none q hn)]; exact q
 tbls:=fun b ps q=>⟨#[],by rw[upd_ne (ne_of_none q hn),q]; simp⟩
theorem Un.write (mu:Mut (H x)) (he:e=x\/H e=some (.own x)) (k:∀ b u,b≠e->h.get? b=some u->h'.get? b=some u) (heo:∃ u,h'.get? e=some u):Un fs ex H (upd H x o) h h':=by
 have hx:∀ b,H b=none->b≠x:=fun b n z=>by subst z; rw[n] at mu; exact mu
 have hb:∀ b,H b=none->b≠e:=fun b n z=>by
  subst z
  rcases he with r | r
  ·exact hx b n r
  ·rw[n] at r; cases r
 have hm:∀ b u,H b=some u->¬ Mut (some u)->b≠x:=fun b u q nm z=>by subst z; rw[q] at mu; exact nm mu
 refine⟨fun b u q n _ _=>k b u (hb b n) q,fun b u q n _ _=>⟨u.slots,k b u (hb b n) q⟩,fun b u q n _=>by rw[upd_ne (hx b n)]; exact n,fun b u q _=>?_,
  fun b xs q=>by rw[upd_ne (hm b _ q fun z=>z)]; exact q,fun b u xs q=>by rw[upd_ne (hm b _ q fun z=>z)]; exact q,fun b ps q=>⟨#[],by rw[upd_ne (hm b _ q fun z=>z),q]; simp⟩⟩
 by_cases hbe:b=e
 ·subst hbe; exact heo
 ·exact⟨u,k b u hbe q⟩
end
def trk (h:Heap) (H:Hp):List Addr:=(List.range h.objs.size).filter fun a=>(H a).isSome
def hidT (h:Heap) (H:Hp):Heap:=PySem.W.hideAll h (trk h H)
theorem hidT_size (h:Heap) (H:Hp):(hidT h H).objs.size=h.objs.size:=PySem.W.hideAll_size _ _
theorem hidT_get {h:Heap} {H:Hp} {b:Addr} {o:Obj} (e:h.get? b=some o) (n:H b=none):(hidT h H).get? b=some o:=
 PySem.W.hideAll_get _ e fun hm=>by
  have q:(H b).isSome=true:=(List.mem_filter.mp hm).2
  rw[n] at q; simp at q
theorem of_hidT {h:Heap} {H:Hp} {b:Addr} {o:Obj} (e:(hidT h H).get? b=some o):h.get? b=some o/\H b=none:=by
 have e':h.get? b=some o:=PySem.W.of_hideAll (trk h H) e
 refine⟨e',?_⟩
 cases q:H b with
 | none=>rfl
 | some x=>
  have hm:b∈trk h H:=List.mem_filter.mpr ⟨List.mem_range.mpr (Heap.lt_size e'),by simp[q]⟩
  have z:(hidT h H).get? b=none:=PySem.W.hideAll_none (trk h H) hm
  rw[z] at e; cases e
end L2
namespace L2
open PySem PySem.Spec PyProof.Rows
structure Mod (K:PySem.W.Frag) (mg:Str->Option Value) (base:Heap):Prop where
 kin:K.In base
 glob:base.Ns mainGlobals mg
 blt:∃ mb,base.Ns builtinsNs mb/\∀ x:Str,x ≠ "__name__" -> mb x=bootBuiltins x
 nolimit:base.NoLimit
structure Cx where
 prog:Program
 w:World
 K:PySem.W.Frag
 mg:Str->Option Value
 base:Heap
 A:Around
 N:List Str
 s₀:Shared
 H₀:Hp
 env:Env
 outer:List Env
 stack:List Env
 ex:List Addr
 fn:Str->Bool
 calm:Bool
 pn:List (Addr×Obj)
 xe:Value->Shared->Prop
def frs (l:List Env):List Addr:=l.filterMap (·.frame)
abbrev Cx.fs (X:Cx):List Addr:=frs X.outer
def Vis (sc:Scope) (x:Str):Prop:=sc.names.lookup x=some .local\/sc.names.lookup x=some .cell\/sc.names.lookup x=some .free
def Loc (sc:Scope) (x:Str):Prop:=sc.names.lookup x=some .local\/sc.names.lookup x=some .cell
def Look (env:Env) (h:Heap) (m:Str->Option Value) (x:Str) (u:Value):Prop:=
 (env.kindOf x=some .local/\m x=some u)\/((env.kindOf x=some .cell\/env.kindOf x=some .free)/\∃ c,env.cells.lookup x=some c/\h.IsCell c (some u))
structure Cx.Ok (X:Cx):Prop where
 mod:Mod X.K X.mg X.base
 kind:X.env.scope.kind=.function
 glob:X.env.globals=mainGlobals
 blt:X.env.builtins=builtinsNs
 above:X.s₀.heap.objs.size<=X.env.locals
 inj:∀ x y c,X.env.cells.lookup x=some c->X.env.cells.lookup y=some c->x=y
 has:∀ x,(X.env.kindOf x=some .cell\/X.env.kindOf x=some .free)->∃ c,X.env.cells.lookup x=some c
 cab:∀ x c,X.fn x=true->X.env.cells.lookup x=some c->X.s₀.heap.objs.size<=c
 hd:X.calm=true->X.A.handled=none
 frames:X.A.frames=some X.stack
 stk:X.stack=X.outer\/(X.stack=X.env::X.outer/\X.env.frame=some X.env.locals)
 exf:∀ b∈X.ex,b≠X.env.locals/\∀ x c,X.env.cells.lookup x=some c->c≠b
 bs:∀ b o,X.base.get? b=some o->X.s₀.heap.get? b=some o/\X.H₀ b=none
 bsz:X.base.objs.size<=X.s₀.heap.objs.size
 noex:∀ b o,X.base.get? b=some o->b∉X.ex
 exfs:∀ b∈X.ex,b∉X.fs
 funs:X.s₀.heap.FunFrames X.base X.outer
 frf:∀ b∈X.fs,X.H₀ b=none
structure Inv (X:Cx) (pins:List (Addr×Obj)) (σ:List (Option V)) (H:Hp) (s:Shared):Prop where
 ok:X.Ok
 os:s.os=X.s₀.os
 bare:AllBare s.gens
 base:Un X.fs X.ex X.H₀ H X.s₀.heap s.heap
 loc:∃ m,s.heap.Ns X.env.locals m/\∀ (i:Nat) (x:Str) (v:V),X.N[i]?=some x->σ[i]?=some (some v)->Vis X.env.scope x->∃ u,RelV v u/\Look X.env s.heap m x u
 cell:∀ x c,X.env.cells.lookup x=some c->∃ v,s.heap.IsCell c v
 free:H X.env.locals=none
 freeC:∀ x c,X.env.cells.lookup x=some c->H c=none
 pin:∀ p∈X.pn++pins,s.heap.get? p.1=some p.2/\H p.1=none/\p.1≠X.env.locals/\p.1∉X.fs/\∀ v,p.2.data≠.cell v
 hok:HOk X.prog X.w H s.heap
 len:σ.length=X.N.length
section
variable {X:Cx} {pins:List (Addr×Obj)} {σ:List (Option V)} {H H':Hp} {s:Shared} {h':Heap}
theorem Cx.Ok.nofr (ok:X.Ok) {b:Addr} {o:Obj} (e:X.base.get? b=some o):b∉X.fs:=fun hb=>by
 have:=(ok.funs.mem hb).1
 rw[e] at this; cases this
theorem Inv.bs (I:Inv X pins σ H s):∀ b o,X.base.get? b=some o->s.heap.get? b=some o/\H b=none:=fun b o e=>
 ⟨I.base.keep b o (I.ok.bs b o e).1 (I.ok.bs b o e).2 (I.ok.nofr e) (I.ok.noex b o e),I.base.free b o (I.ok.bs b o e).1 (I.ok.bs b o e).2 (I.ok.noex b o e)⟩
theorem Inv.bk (I:Inv X pins σ H s):∀ b o,X.base.get? b=some o->s.heap.get? b=some o:=fun b o e=>(I.bs b o e).1
theorem Inv.mod (I:Inv X pins σ H s):Mod X.K X.mg X.base:=I.ok.mod
theorem Inv.kIn (I:Inv X pins σ H s):X.K.In s.heap:=I.ok.mod.kin.keeps I.bk
theorem Inv.lt (I:Inv X pins σ H s):X.env.locals<s.heap.objs.size:=let ⟨_,hn,_⟩:=I.loc; hn.lt
theorem Inv.sz (I:Inv X pins σ H s):X.s₀.heap.objs.size<=s.heap.objs.size:=Nat.le_trans I.ok.above (Nat.le_of_lt I.lt)
theorem Inv.nofs (I:Inv X pins σ H s) {a:Addr} (h:s.heap.objs.size<=a):a∉X.fs:=fun hb=>by
 obtain⟨_,o,ho,_⟩:=I.ok.funs.mem hb
 exact absurd (Nat.lt_of_lt_of_le (Heap.lt_size ho) (Nat.le_trans I.sz h)) (Nat.lt_irrefl _)
theorem Inv.cne (I:Inv X pins σ H s):∀ x c,X.env.cells.lookup x=some c->c≠X.env.locals:=fun x c e z=>by
 obtain⟨v,o,ho,hd⟩:=I.cell x c e
 obtain⟨m,⟨o',es,ep,ho',hd',_⟩,_⟩:=I.loc
 rw[z,ho'] at ho; cases ho; rw[hd'] at hd; cases hd
theorem Inv.funs (I:Inv X pins σ H s):s.heap.FunFrames X.base X.outer:=by
 have all:∀ (l:List Env),(∀ b∈frs l,b∈X.fs)->X.s₀.heap.FunFrames X.base l->s.heap.FunFrames X.base l:=by
  intro l
  induction l with
  | nil=>intro _ _; trivial
  | cons env r ih=>
   intro hs hl
   obtain⟨hk,⟨L,o,hf,hn,ho,hd⟩,hr⟩:=hl
   have hL:L∈X.fs:=hs L (by unfold frs; rw[List.filterMap_cons,hf]; exact List.mem_cons_self)
   obtain⟨sl,e⟩:=I.base.slot L o ho (I.ok.frf L hL) hL fun z=>I.ok.exfs L z hL
   exact⟨hk,⟨L,_,hf,hn,e,hd⟩,ih (fun b hb=>hs b (by unfold frs; rw[List.filterMap_cons,hf]; exact List.mem_cons_of_mem _ hb)) hr⟩
 exact all X.outer (fun _ hb=>hb) I.ok.funs
theorem Inv.stack (I:Inv X pins σ H s):s.heap.FunFrames X.base X.stack:=by
 rcases I.ok.stk with e | ⟨e,hf⟩
 ·rw[e]; exact I.funs
 ·rw[e]
  obtain⟨m,hn,_⟩:=I.loc
  refine .cons (by rw[I.ok.kind]; decide) hf hn ?_ I.funs
  exact Heap.get?_none_of_le (Nat.le_trans I.ok.bsz I.ok.above)
theorem Inv.stkSub (I:Inv X pins σ H s):∀ b∈frs X.stack,b∈X.env.locals::X.fs:=fun b hb=>by
 rcases I.ok.stk with e | ⟨e,hf⟩
 ·rw[e] at hb; exact List.mem_cons_of_mem _ hb
 ·rw[e] at hb
  unfold frs at hb
  rw[List.filterMap_cons,hf] at hb
  exact hb
theorem Inv.stkFree (I:Inv X pins σ H s):∀ b∈frs X.stack,H b=none:=fun b hb=>by
 rcases List.mem_cons.mp (I.stkSub b hb) with e | hb
 ·rw[e]; exact I.free
 ·obtain⟨_,o,ho,_⟩:=I.ok.funs.mem hb
  exact I.base.free b o ho (I.ok.frf b hb) fun z=>I.ok.exfs b z hb
theorem Inv.step {g':Array GenState} {t':Nat} {d':Drawn} {ch:List Addr} (I:Inv X pins σ H s)
  (hch:∀ b∈ch,(b∈X.ex\/X.s₀.heap.objs.size<=b)/\b≠X.env.locals/\(∀ x c,X.env.cells.lookup x=some c->c≠b)/\∀ p∈X.pn++pins,p.1≠b)
  (keep:∀ b o,b≠X.env.locals->b∉X.fs->b∉ch->s.heap.get? b=some o->H b=none->h'.get? b=some o)
  (slot:∀ b o,b≠X.env.locals->b∈X.fs->b∉ch->s.heap.get? b=some o->H b=none->∃ sl,h'.get? b=some { o with slots:=sl }) (free:∀ b o,b∉ch->s.heap.get? b=some o->H b=none->H' b=none)
  (there:∀ b o,b∉ch->s.heap.get? b=some o->∃ o',h'.get? b=some o')
  (tups:∀ b xs,H b=some (.tup xs)->H' b=some (.tup xs)) (frzs:∀ b o u,H b=some (.frz o u)->H' b=some (.frz o u)) (tbls:∀ b ps,H b=some (.tbl ps)->∃ more,H' b=some (.tbl (ps++more)))
  (ns:∀ m,s.heap.Ns X.env.locals m->h'.Ns X.env.locals m) (hok:HOk X.prog X.w H' h') (hg:AllBare g') :
  Inv X pins σ H' { s with heap:=h',gens:=g',drawn:=d',toks:=t' }:=by
 have neL:∀ b o,X.s₀.heap.get? b=some o->b≠X.env.locals:=fun b o e=>Nat.ne_of_lt (Nat.lt_of_lt_of_le (Heap.lt_size e) I.ok.above)
 have neC:∀ b o,X.s₀.heap.get? b=some o->b∉X.ex->b∉ch:=fun b o e hx hb=>by
  rcases (hch b hb).1 with z | z
  ·exact hx z
  ·exact absurd (Nat.lt_of_lt_of_le (Heap.lt_size e) z) (Nat.lt_irrefl _)
 have cellK:∀ x c,X.env.cells.lookup x=some c->∀ v,s.heap.IsCell c v->h'.IsCell c v:=fun x c e v ⟨o,ho,hd⟩=>by
  have nch:c∉ch:=fun z=>(hch c z).2.2.1 x c e rfl
  by_cases hc:c∈X.fs
  ·obtain⟨sl,q⟩:=slot c o (I.cne x c e) hc nch ho (I.freeC x c e)
   exact⟨_,q,hd⟩
  ·exact⟨o,keep c o (I.cne x c e) hc nch ho (I.freeC x c e),hd⟩
 refine⟨I.ok,I.os,hg,⟨fun b o e n hb hx=>?_,fun b o e n hb hx=>?_,fun b o e n hx=>?_,fun b o e hx=>?_,fun b xs e=>tups b xs (I.base.tups b xs e),fun b o xs e=>frzs b o xs (I.base.frzs b o xs e),fun b ps e=>?_⟩,?_,fun x c e=>?_,?_,fun x c e=>?_,fun p hp=>?_,hok,I.len⟩
 ·exact keep b o (neL b o e) hb (neC b o e hx) (I.base.keep b o e n hb hx) (I.base.free b o e n hx)
 ·obtain⟨sl,e1⟩:=I.base.slot b o e n hb hx
  obtain⟨sl',e2⟩:=slot b _ (neL b o e) hb (neC b o e hx) e1 (I.base.free b o e n hx)
  exact⟨sl',e2⟩
 ·obtain⟨o',e1⟩:=I.base.there b o e hx
  exact free b o' (neC b o e hx) e1 (I.base.free b o e n hx)
 ·obtain⟨o',e1⟩:=I.base.there b o e hx
  exact there b o' (neC b o e hx) e1
 ·obtain⟨m1,e1⟩:=I.base.tbls b ps e
  obtain⟨m2,e2⟩:=tbls b _ e1
  exact⟨m1++m2,by rw[e2,Array.append_assoc]⟩
 ·obtain⟨m,hn,hl⟩:=I.loc
  refine⟨m,ns m hn,fun i x v e1 e2 e3=>?_⟩
  obtain⟨u,r,l⟩:=hl i x v e1 e2 e3
  refine⟨u,r,?_⟩
  rcases l with l | ⟨k,c,e,z⟩
  ·exact .inl l
  ·exact .inr ⟨k,c,e,cellK x c e _ z⟩
 ·obtain⟨v,z⟩:=I.cell x c e
  exact⟨v,cellK x c e v z⟩
 ·obtain⟨m,⟨o,_,_,ho,_⟩,_⟩:=I.loc
  exact free _ o (fun z=>(hch _ z).2.1 rfl) ho I.free
 ·obtain⟨v,o,ho,hd⟩:=I.cell x c e
  exact free c o (fun z=>(hch c z).2.2.1 x c e rfl) ho (I.freeC x c e)
 ·obtain⟨e,n,ne,nf,d⟩:=I.pin p hp
  have nch:p.1∉ch:=fun z=>(hch p.1 z).2.2.2 p hp rfl
  exact⟨keep p.1 p.2 ne nf nch e n,free p.1 p.2 nch e n,ne,nf,d⟩
theorem Inv.un {t':Nat} (I:Inv X pins σ H s) (u:Un X.fs [] H H' s.heap h') (hok:HOk X.prog X.w H' h'):Inv X pins σ H' { s with heap:=h',toks:=t' }:=by
 obtain⟨m,⟨o,es,ep,ho,r⟩,_⟩:=id I.loc
 obtain⟨sl,hL⟩:=u.any ho I.free (by simp)
 exact I.step (g':=s.gens) (d':=s.drawn) (ch:=[]) (fun _ z=>nomatch z) (fun b o _ hb _ e n=>u.keep b o e n hb (by simp)) (fun b o _ hb _ e n=>u.slot b o e n hb (by simp)) (fun b o _ e n=>u.free b o e n (by simp)) (fun b o _ e=>u.there b o e (by simp)) u.tups u.frzs u.tbls (fun m' hm=>by
  obtain⟨o',es',ep',ho',r'⟩:=hm
  rw[ho] at ho'; cases ho'
  exact⟨_,es',ep',hL,r'⟩) hok I.bare
theorem Inv.call {g':Array GenState} {t':Nat} {d':Drawn} {ch:List Addr} (I:Inv X pins σ H s) (u:Un (frs X.stack) ch H H' s.heap h') (hok:HOk X.prog X.w H' h') (hg:AllBare g')
  (hch:∀ b∈ch,(b∈X.ex\/X.s₀.heap.objs.size<=b)/\b≠X.env.locals/\(∀ x c,X.env.cells.lookup x=some c->c≠b)/\∀ p∈X.pn++pins,p.1≠b) :
  Inv X pins σ H' { s with heap:=h',gens:=g',drawn:=d',toks:=t' }:=by
 obtain⟨m,⟨o,es,ep,ho,r⟩,_⟩:=id I.loc
 obtain⟨sl,hL⟩:=u.any ho I.free fun z=>(hch _ z).2.1 rfl
 exact I.step (ch:=ch) hch (fun b o hL hb hc e n=>u.keep b o e n (fun z=>(List.mem_cons.mp (I.stkSub b z)).elim hL hb) hc) (fun b o _ _ hc e n=>u.any e n hc) (fun b o hc e n=>u.free b o e n hc) (fun b o hc e=>u.there b o e hc) u.tups u.frzs u.tbls (fun m' hm=>by
  obtain⟨o',es',ep',ho',r'⟩:=hm
  rw[ho] at ho'; cases ho'
  exact⟨_,es',ep',hL,r'⟩) hok hg
theorem Inv.turned {t':Nat} {it:Addr} (I:Inv X pins σ H s) (k:∀ b o,b≠it->s.heap.get? b=some o->h'.get? b=some o) (hn:H it=none) (hL:it≠X.env.locals)
  (h1:it∈X.ex\/X.s₀.heap.objs.size<=it) (h2:∀ x c,X.env.cells.lookup x=some c->c≠it) (h3:∀ p∈X.pn++pins,p.1≠it):Inv X pins σ H { s with heap:=h',toks:=t' }:=by
 have nit:∀ b u,H b=some u->b≠it:=fun b u e z=>by rw[z,hn] at e; cases e
 refine I.step (g':=s.gens) (d':=s.drawn) (ch:=[it]) (fun b hb=>?_) (fun b o _ _ hc e _=>k b o (fun z=>hc (by simp[z])) e) (fun b o _ _ hc e _=>⟨o.slots,k b o (fun z=>hc (by simp[z])) e⟩) (fun _ _ _ _ n=>n)
  (fun b o hc e=>⟨o,k b o (fun z=>hc (by simp[z])) e⟩) (fun _ _ e=>e) (fun _ _ _ e=>e) (fun b ps e=>⟨#[],by rw[e]; simp⟩) (fun m hm=>?_) (fun b u e=>?_) I.bare
 ·have e:b=it:=by simpa using hb
  subst e
  exact⟨h1,hL,h2,h3⟩
 ·obtain⟨o,es,ep,ho,r⟩:=hm
  exact⟨o,es,ep,k _ o (Ne.symm hL) ho,r⟩
 ·refine (I.hok b u e).stay (fun c v hc q=>k c v ?_ q) (fun _ q=>q) fun _ _ q=>q
  rcases hc with z | z
  ·rw[z]; exact nit b u e
  ·exact nit c _ z
theorem Inv.tok (I:Inv X pins σ H s) (t:Nat):Inv X pins σ H { s with toks:=t }:=I.un (h':=s.heap) (t':=t) Un.refl I.hok
theorem Inv.kept {t':Nat} (I:Inv X pins σ H s) (k:∀ b u,s.heap.get? b=some u->h'.get? b=some u):Inv X pins σ H { s with heap:=h',toks:=t' }:=I.un (Un.kept k) (I.hok.kept k)
theorem Inv.laid {a:Addr} {o:HO} {t':Nat} (I:Inv X pins σ H s) (k:∀ b u,s.heap.get? b=some u->h'.get? b=some u) (hp:s.heap.objs.size<=a) (new:ObjOk X.prog X.w (upd H a o) h' a o) :
  Inv X pins σ (upd H a o) { s with heap:=h',toks:=t' }:=I.un (Un.laid k hp (I.hok.fresh hp)) (I.hok.laid k hp new)
theorem Inv.write {x e:Addr} {o:HO} {t':Nat} (I:Inv X pins σ H s) (mu:Mut (H x)) (he:e=x\/H e=some (.own x)) (k:∀ b u,b≠e->s.heap.get? b=some u->h'.get? b=some u) (heo:∃ u,h'.get? e=some u)
  (new:ObjOk X.prog X.w (upd H x o) h' x o):Inv X pins σ (upd H x o) { s with heap:=h',toks:=t' }:=I.un (Un.write mu he k heo) (I.hok.write mu he k heo new)
theorem Inv.pins_of {pins':List (Addr×Obj)} (I:Inv X pins σ H s) (h:∀ p∈pins',s.heap.get? p.1=some p.2/\H p.1=none/\p.1≠X.env.locals/\p.1∉X.fs/\∀ v,p.2.data≠.cell v):Inv X pins' σ H s:=
 ⟨I.ok,I.os,I.bare,I.base,I.loc,I.cell,I.free,I.freeC,fun p hp=>(List.mem_append.mp hp).elim (fun z=>I.pin p (List.mem_append_left _ z)) (h p),I.hok,I.len⟩
theorem nodup_ix {N:List Str} (hN:N.Nodup) {i j:Nat} {x:Str} (a:N[i]?=some x) (b:N[j]?=some x):i=j:=by
 obtain⟨h1,e1⟩:=List.getElem?_eq_some_iff.mp a
 obtain⟨h2,e2⟩:=List.getElem?_eq_some_iff.mp b
 exact (List.getElem_inj hN).mp (e1.trans e2.symm)
theorem store_ok2 {M:Model} {A:Around} {E:Value->Shared->Prop} {i:Nat} {x:Str} {v:V} {u:Value} {Q:Unit->Shared->Prop} (I:Inv X pins σ H s) (hN:X.N.Nodup) (hi:X.N[i]?=some x) (hx:Loc X.env.scope x) (r:RelV v u)
  (h:∀ s',Inv X pins (σ.set i (some v)) H s'->(∃ a,Heap.SameBut a s.heap s'.heap/\(a=X.env.locals\/X.env.cells.lookup x=some a))->Q () s') (hf:X.fn x=true\/X.env.scope.names.lookup x=some .local:=by first | exact .inl rfl | exact .inr rfl | assumption):wpAny M A (storeName X.env x u) Q E s:=by
 obtain⟨m,hn,hl⟩:=id I.loc
 have hcls:(X.env.scope.kind == .class||(X.env.scope.kind == .module&&X.env.locals != X.env.globals))=false:=by rw[I.ok.kind]; rfl
 have hiσ:i<σ.length:=by rw[I.len]; exact (List.getElem?_eq_some_iff.mp hi).1
 have cne:=I.cne
 have tracked:∀ {a:Addr} {h':Heap},(∃ o,s.heap.get? a=some o/\H a=none)->Heap.SameBut a s.heap h'->HOk X.prog X.w H h':=fun {a h'} ha hs b ob e=>by
  obtain⟨_,_,hfree⟩:=ha
  refine (I.hok b ob e).stay (fun c w' hc q=>(hs.2 c ?_).trans q) (fun _ q=>q) fun _ _ q=>q
  rintro rfl
  rcases hc with rfl | hc
  ·rw[hfree] at e; cases e
  ·rw[hfree] at hc; cases hc
 rcases hx with hk | hk
 ·refine wpAny_storeName_local hk hn (fun h' hn' hs=>?_) hcls
  obtain⟨oL,_,_,hoL,_⟩:=id hn
  refine h _ ⟨I.ok,I.os,I.bare,⟨fun b o e n hb hx=>?_,fun b o e n hb hx=>?_,I.base.free,fun b o e hx=>?_,I.base.tups,I.base.frzs,I.base.tbls⟩,⟨_,hn',fun j y v' e1 e2 e3=>?_⟩,fun y c e=>?_,I.free,I.freeC,fun p hp=>?_,tracked ⟨oL,hoL,I.free⟩ hs,by simpa using I.len⟩ ⟨_,hs,.inl rfl⟩
  ·exact (hs.2 b (Nat.ne_of_lt (Nat.lt_of_lt_of_le (Heap.lt_size e) I.ok.above))).trans (I.base.keep b o e n hb hx)
  ·obtain⟨sl,e1⟩:=I.base.slot b o e n hb hx
   exact⟨sl,(hs.2 b (Nat.ne_of_lt (Nat.lt_of_lt_of_le (Heap.lt_size e) I.ok.above))).trans e1⟩
  ·obtain⟨o',e1⟩:=I.base.there b o e hx
   exact⟨o',(hs.2 b (Nat.ne_of_lt (Nat.lt_of_lt_of_le (Heap.lt_size e) I.ok.above))).trans e1⟩
  ·by_cases hj:j=i
   ·subst hj
    rw[hi] at e1; cases e1
    rw[List.getElem?_set_self hiσ] at e2
    cases e2
    exact⟨u,r,.inl ⟨hk,by simp⟩⟩
   ·rw[List.getElem?_set_ne (Ne.symm hj)] at e2
    obtain⟨u',r',q⟩:=hl j y v' e1 e2 e3
    refine⟨u',r',?_⟩
    rcases q with ⟨k,e⟩ | ⟨k,c,e,z⟩
    ·refine .inl ⟨k,?_⟩
     have:y≠x:=fun e=>hj (nodup_ix hN e1 (e ▸ hi))
     simp[this,e]
    ·exact .inr ⟨k,c,e,z.sameBut hs (cne y c e)⟩
  ·obtain⟨w',z⟩:=I.cell y c e
   exact⟨w',z.sameBut hs (cne y c e)⟩
  ·obtain⟨e,n,ne,nf,d⟩:=I.pin p hp
   exact⟨(hs.2 p.1 ne).trans e,n,ne,nf,d⟩
 ·have hfn:X.fn x=true:=by
   rcases hf with z | z
   ·exact z
   ·rw[z] at hk; cases hk
  obtain⟨c,hc⟩:=I.ok.has x (.inl hk)
  obtain⟨w',z⟩:=I.cell x c hc
  refine wpAny_storeName_cell I.ok.kind hk hc z (fun h' hc' hs=>?_)
  obtain⟨oc,hoc,hocd⟩:=id z
  refine h { s with heap:=h' } ⟨I.ok,I.os,I.bare,⟨fun b o e n hb hx=>?_,fun b o e n hb hx=>?_,I.base.free,fun b o e hx=>?_,I.base.tups,I.base.frzs,I.base.tbls⟩,⟨m,hn.sameBut hs (Ne.symm (cne x c hc)),fun j y v' e1 e2 e3=>?_⟩,fun y c' e=>?_,I.free,I.freeC,fun p hp=>?_,tracked ⟨oc,hoc,I.freeC x c hc⟩ hs,by simpa using I.len⟩ ⟨c,hs,.inr hc⟩
  ·exact (hs.2 b (Nat.ne_of_lt (Nat.lt_of_lt_of_le (Heap.lt_size e) (I.ok.cab x c hfn hc)))).trans (I.base.keep b o e n hb hx)
  ·obtain⟨sl,e1⟩:=I.base.slot b o e n hb hx
   exact⟨sl,(hs.2 b (Nat.ne_of_lt (Nat.lt_of_lt_of_le (Heap.lt_size e) (I.ok.cab x c hfn hc)))).trans e1⟩
  ·obtain⟨o',e1⟩:=I.base.there b o e hx
   exact⟨o',(hs.2 b (Nat.ne_of_lt (Nat.lt_of_lt_of_le (Heap.lt_size e) (I.ok.cab x c hfn hc)))).trans e1⟩
  ·by_cases hj:j=i
   ·subst hj
    rw[hi] at e1; cases e1
    rw[List.getElem?_set_self hiσ] at e2
    cases e2
    exact⟨u,r,.inr ⟨.inl hk,c,hc,hc'⟩⟩
   ·rw[List.getElem?_set_ne (Ne.symm hj)] at e2
    obtain⟨u',r',q⟩:=hl j y v' e1 e2 e3
    refine⟨u',r',?_⟩
    rcases q with q | ⟨k,c',e,z'⟩
    ·exact .inl q
    ·refine .inr ⟨k,c',e,z'.sameBut hs ?_⟩
     rintro rfl
     exact hj (nodup_ix hN e1 (I.ok.inj _ _ _ e hc ▸ hi))
  ·by_cases hcc:c'=c
   ·subst hcc; exact⟨_,hc'⟩
   ·obtain⟨w2,z2⟩:=I.cell y c' e
    exact⟨w2,z2.sameBut hs hcc⟩
  ·obtain⟨e,n,ne,nf,d⟩:=I.pin p hp
   refine⟨(hs.2 p.1 ?_).trans e,n,ne,nf,d⟩
   intro q
   rw[q,hoc] at e
   have q':oc=p.2:=Option.some.inj e
   exact d w' (by rw[<-q']; exact hocd)
theorem store_ok {M:Model} {A:Around} {E:Value->Shared->Prop} {i:Nat} {x:Str} {v:V} {u:Value} {Q:Unit->Shared->Prop} (I:Inv X pins σ H s) (hN:X.N.Nodup) (hi:X.N[i]?=some x) (hx:Loc X.env.scope x) (r:RelV v u)
  (h:∀ s',Inv X pins (σ.set i (some v)) H s'->Q () s') (hf:X.fn x=true\/X.env.scope.names.lookup x=some .local:=by first | exact .inl rfl | exact .inr rfl | assumption):wpAny M A (storeName X.env x u) Q E s:=
 store_ok2 I hN hi hx r (fun s' I' _=>h s' I') hf
theorem Inv.call' {s':Shared} {ch:List Addr} (I:Inv X pins σ H s) (ho:s'.os=s.os) (u:Un (frs X.stack) ch H H' s.heap s'.heap) (hok:HOk X.prog X.w H' s'.heap) (hg:AllBare s'.gens)
  (hch:∀ b∈ch,(b∈X.ex\/X.s₀.heap.objs.size<=b)/\b≠X.env.locals/\(∀ x c,X.env.cells.lookup x=some c->c≠b)/\∀ p∈X.pn++pins,p.1≠b):Inv X pins σ H' s':=by
 obtain⟨h',g',d',t',o'⟩:=s'
 have e:o'=s.os:=ho
 subst e
 exact I.call (g':=g') (t':=t') (d':=d') u hok hg hch
end
abbrev XK:=Value->Option Addr->Hp->Prop
abbrev St:=List (Option V)
abbrev VK:=V->Hp->Prop
abbrev TE:=St->Hp->VK->Prop
abbrev TT:=St->Hp->(Bool->Hp->Prop)->Prop
abbrev TA:=St->Hp->(List V->Hp->Prop)->Prop
structure Ends where
 nx:St->Hp->Prop
 rt:VK
 bk:St->Hp->Prop:=fun _ _=>False
 ct:St->Hp->Prop:=fun _ _=>False
abbrev TS:=Ends->St->Hp->Prop
def EP (X:Cx) (pins:List (Addr×Obj)) (σ:St) (Q:VK) (u:Value) (s':Shared):Prop:=∃ v H',Inv X pins σ H' s'/\RelV v u/\Q v H'
def TP (X:Cx) (pins:List (Addr×Obj)) (σ:St) (Q:Bool->Hp->Prop) (b:Bool) (s':Shared):Prop:=∃ H',Inv X pins σ H' s'/\Q b H'
def AP (X:Cx) (pins:List (Addr×Obj)) (σ:St) (Q:List V->Hp->Prop) (us:List Value) (s':Shared):Prop:=∃ vs H',Inv X pins σ H' s'/\Vals vs us/\Q vs H'
def SP (X:Cx) (pins:List (Addr×Obj)) (D:Ends) (f:Flow) (s':Shared):Prop:=
 match f with
 | .next=>∃ σ' H',Inv X pins σ' H' s'/\D.nx σ' H'
 | .brk=>∃ σ' H',Inv X pins σ' H' s'/\D.bk σ' H'
 | .cont=>∃ σ' H',Inv X pins σ' H' s'/\D.ct σ' H'
 | .ret u=>∃ v σ' H',Inv X pins σ' H' s'/\RelV v u/\D.rt v H'
def PE (X:Cx) (e:Expr) (t:TE):Prop:=
 ∀ (pins:List (Addr×Obj)) (s:Shared) (σ:St) (H:Hp) (Q:VK),Inv X pins σ H s->t σ H Q->wpAny (model X.prog X.w) X.A (eval e X.env) (EP X pins σ Q) X.xe s
def PT (X:Cx) (e:Expr) (t:TT):Prop:=
 ∀ (pins:List (Addr×Obj)) (s:Shared) (σ:St) (H:Hp) (Q:Bool->Hp->Prop),Inv X pins σ H s->t σ H Q->wpAny (model X.prog X.w) X.A (isTrue e X.env (eval e X.env)) (TP X pins σ Q) X.xe s
def PW (X:Cx) (e:Expr) (t:TT):Prop:=
 ∀ (whole:Sem Value) (pins:List (Addr×Obj)) (s:Shared) (σ:St) (H:Hp) (Q:Bool->Hp->Prop),Inv X pins σ H s->t σ H Q->wpAny (model X.prog X.w) X.A (isTrue e X.env whole) (TP X pins σ Q) X.xe s
theorem PW.pt {X:Cx} {e:Expr} {t:TT} (h:PW X e t):PT X e t:=h _
def PA (X:Cx) (es:List Expr) (t:TA):Prop:=
 ∀ (pos:Pos) (pins:List (Addr×Obj)) (s:Shared) (σ:St) (H:Hp) (Q:List V->Hp->Prop),Inv X pins σ H s->t σ H Q->wpAny (model X.prog X.w) X.A (spliced (backTo pos (starEach es X.env))) (AP X pins σ Q) X.xe s
def PS (X:Cx) (st:Stmt) (t:TS):Prop:=
 ∀ (pins:List (Addr×Obj)) (s:Shared) (σ:St) (H:Hp) (D:Ends),Inv X pins σ H s->t D σ H->wpAny (model X.prog X.w) X.A (exec st X.env) (SP X pins D) X.xe s
def PSs (X:Cx) (st:List Stmt) (t:TS):Prop:=
 ∀ (pins:List (Addr×Obj)) (s:Shared) (σ:St) (H:Hp) (D:Ends),Inv X pins σ H s->t D σ H->wpAny (model X.prog X.w) X.A (execs st X.env) (SP X pins D) X.xe s
theorem thn {α:Type} {t:Sem α} {Q Q':α->Shared->Prop} {M:Model} {A:Around} {E:Value->Shared->Prop} {s:Shared} (h:wpAny M A t Q E s) (hQ:∀ a s,Q a s->Q' a s):wpAny M A t Q' E s:=wpAny_mono h hQ fun _ _ x=>x
end L2
namespace L2
open PySem PySem.Spec PyProof.Rows
section
variable {X:Cx}
def tVar (i:Nat):TE:=fun σ H Q=>∃ v,σ[i]?=some (some v)/\Q v H
def tC (v:V):TE:=fun _ H Q=>Q v H
theorem pe_var {i:Nat} {x:Str} {pos:Pos} (hN:X.N[i]?=some x) (hv:Vis X.env.scope x) (hd:(x == ("__debug__" : Str))=false:=by decide) (hcd:(x == ("__classdict__" : Str))=false:=by decide):PE X (.Name x pos) (tVar i):=by
 intro pins s σ H Q I h
 obtain⟨v,e,h⟩:=h
 obtain⟨m,hn,hl⟩:=I.loc
 obtain⟨u,r,l⟩:=hl i x v hN e hv
 have fin:EP X pins σ Q u s:=⟨v,H,I,r,h⟩
 rcases l with ⟨hk,hm⟩ | ⟨hk,c,hc,hcell⟩
 ·exact wpAny_Name (wpAny_loadName_local I.ok.kind hk hn hm fin) hd
 ·rcases hk with hk | hk
  ·exact wpAny_Name (wpAny_loadName_cell I.ok.kind hk hc hcell fin) hd
  ·exact wpAny_Name (wpAny_loadName_free I.ok.kind hk hc hcell fin hcd) hd
theorem pe_int {i j pos}:PE X (.Constant (.int i) j pos) (tC (.int i)):=fun _ _ _ H _ I h=>wpAny_Constant_int ⟨.int i,H,I.tok _,⟨_,rfl⟩,h⟩
theorem pe_bl {b j pos}:PE X (.Constant (.bool b) j pos) (tC (.bl b)):=fun _ _ _ H _ I h=>Constant_bool ⟨.bl b,H,I,rfl,h⟩
theorem pe_str {x j pos}:PE X (.Constant (.str x) j pos) (tC (.str x)):=fun _ _ _ H _ I h=>Calls.Constant_str ⟨.str x,H,I.tok _,⟨_,rfl⟩,h⟩
def Gl (X:Cx) (x:Str):Prop:=X.env.kindOf x=some .globalImplicit
theorem ld_glob {E:Value->Shared->Prop} {pins:List (Addr×Obj)} {s:Shared} {σ:St} {H:Hp} {x:Str} {u:Value} {pos:Pos} {Q:Value->Shared->Prop} (I:Inv X pins σ H s) (hg:Gl X x) (hm:X.mg x=some u) (h:Q u s)
  (hd:(x == ("__debug__" : Str))=false:=by decide):wpAny (model X.prog X.w) X.A (eval (.Name x pos) X.env) Q E s:=
 Calls.Name_function_global I.ok.kind hg (Calls.loadGlobal_global (by rw[I.ok.glob]; exact I.mod.glob.keeps I.bk) hm h) hd
theorem ld_blt {E:Value->Shared->Prop} {pins:List (Addr×Obj)} {s:Shared} {σ:St} {H:Hp} {x:Str} {u:Value} {pos:Pos} {Q:Value->Shared->Prop} (I:Inv X pins σ H s) (hg:Gl X x) (hm:X.mg x=none) (hv:bootBuiltins x=some u) (h:Q u s)
  (hn:x ≠ "__name__" := by decide) (hd:(x == ("__debug__" : Str))=false:=by decide):wpAny (model X.prog X.w) X.A (eval (.Name x pos) X.env) Q E s:=by
 obtain⟨mb,h1,h2⟩:=I.mod.blt
 exact Calls.Name_function_global I.ok.kind hg (Calls.loadGlobal_builtin (by rw[I.ok.glob]; exact I.mod.glob.keeps I.bk) hm (by rw[I.ok.blt]; exact h1.keeps I.bk) ((h2 x hn).trans hv) h) hd
theorem pe_glob {x:Str} {v:V} {u:Value} {pos:Pos} (hg:Gl X x) (hm:X.mg x=some u) (r:RelV v u) (hd:(x == ("__debug__" : Str))=false:=by decide):PE X (.Name x pos) (tC v):=
 fun _ _ _ H _ I h=>ld_glob I hg hm ⟨v,H,I,r,h⟩ hd
theorem pe_bltn {x:Str} {v:V} {u:Value} {pos:Pos} (hg:Gl X x) (hm:X.mg x=none) (hv:bootBuiltins x=some u) (r:RelV v u) (hn:x ≠ "__name__" := by decide) (hd:(x == ("__debug__" : Str))=false:=by decide):PE X (.Name x pos) (tC v):=
 fun _ _ _ H _ I h=>ld_blt I hg hm hv ⟨v,H,I,r,h⟩ hn hd
variable {a b:Expr} {ta tb:TE} {pos:Pos}
def PC (X:Cx) (op:CmpOp) (a b:Expr) (t:TE):Prop:=
 ∀ (pins:List (Addr×Obj)) (s:Shared) (σ:St) (H:Hp) (Q:VK),Inv X pins σ H s->t σ H Q ->
  wpAny (model X.prog X.w) X.A (eval a X.env) (fun v s₁=>wpAny (model X.prog X.w) X.A (eval b X.env) (fun u s₂=>wpAny (model X.prog X.w) X.A (compareOp op v u) (EP X pins σ Q) X.xe s₂) X.xe s₁) X.xe s
def tB (t:TE):TT:=fun σ H Q=>t σ H fun x H1=>∃ c,x=.bl c/\Q c H1
theorem pt_cmp {op:CmpOp} {t:TE} (h:PC X op a b t) (h1:behindInMarks op b=false:=by first | exact nobehind _ (by decide) (by decide) | rfl):PT X (.Compare a [op] [b] pos) (tB t):=by
 intro pins s σ H Q I hw
 refine wpAny_isTrue_Compare1 (thn (h pins s σ H _ I hw) fun v s1 h1=>thn h1 fun u s2 h2=>thn h2 fun c s3 ⟨x,H1,I1,r1,q1⟩=>?_) h1
 obtain⟨d,rfl,q⟩:=q1
 cases r1
 exact wpAny_truthy_bool ⟨H1,I1,q⟩
variable {tA tB':TT} {rest:List Expr}
def tAnd (t u:TT):TT:=fun σ H Q=>t σ H fun c H1=>if c=true then u σ H1 Q else Q false H1
def tOr (t u:TT):TT:=fun σ H Q=>t σ H fun c H1=>if c=true then Q true H1 else u σ H1 Q
theorem pw_and1 (ha:PT X a tA):PW X (.BoolOp .And [a] pos) tA:=by
 intro wh pins s σ H Q I h
 refine isTrue_and (thn (ha pins s σ H Q I h) fun c s1 e=>?_)
 cases c with
 | true=>exact isTrue_and_nil e
 | false=>exact e
theorem pw_or1 (ha:PT X a tA):PW X (.BoolOp .Or [a] pos) tA:=by
 intro wh pins s σ H Q I h
 refine isTrue_or (thn (ha pins s σ H Q I h) fun c s1 e=>?_)
 cases c with
 | false=>exact isTrue_or_nil e
 | true=>exact e
theorem pw_and (ha:PT X a tA) (hb:PW X (.BoolOp .And (b::rest) pos) tB'):PW X (.BoolOp .And (a::b::rest) pos) (tAnd tA tB'):=by
 intro wh pins s σ H Q I h
 refine isTrue_and (thn (ha pins s σ H _ I h) fun c s1 ⟨H1,I1,q1⟩=>?_)
 cases c with
 | true=>exact hb wh pins s1 σ H1 Q I1 q1
 | false=>exact⟨H1,I1,q1⟩
theorem pw_or (ha:PT X a tA) (hb:PW X (.BoolOp .Or (b::rest) pos) tB'):PW X (.BoolOp .Or (a::b::rest) pos) (tOr tA tB'):=by
 intro wh pins s σ H Q I h
 refine isTrue_or (thn (ha pins s σ H _ I h) fun c s1 ⟨H1,I1,q1⟩=>?_)
 cases c with
 | true=>exact⟨H1,I1,q1⟩
 | false=>exact hb wh pins s1 σ H1 Q I1 q1
end
end L2
namespace L2
open PySem PySem.Spec PyProof.Rows
def SqL (K:PySem.W.Frag) (H:Hp) (a:Addr) (xs:List V):Prop:=
 Rd H a (.lst xs) \/
  ∃ (o:Obj) (its:Array Value) (n:Nat),K.lookup a=some o/\o.cls=.type "list" /\ o.dict=none/\o.data=.seq its n/\its.size<=sizeLine/\Vals xs its.toList
def SqT (K:PySem.W.Frag) (H:Hp) (a:Addr) (xs:List V):Prop:=
 Rd H a (.tup xs) \/
  ∃ (o:Obj) (its:Array Value) (n:Nat),K.lookup a=some o/\o.cls=.type "tuple" /\ o.data=.seq its n/\its.size<=sizeLine/\Vals xs its.toList
def absV:Value->Option V
 | .none=>some .non
 | .bool b=>some (.bl b)
 | .int i _=>some (.int i)
 | .str x _=>some (.str x)
 | .bytes b _=>some (.byt b)
 | .float b _=>some (.flt b)
 | .ref a=>some (.ref a)
 | .type n=>some (.ty n)
 | _=>none
theorem RelV.abs {x:V} {u:Value} (r:RelV x u):absV u=some x:=by
 cases x with
 | non=>cases r; rfl
 | bl _=>cases r; rfl
 | int _=>obtain⟨t,rfl⟩:=r; rfl
 | str _=>obtain⟨t,rfl⟩:=r; rfl
 | byt _=>obtain⟨t,rfl⟩:=r; rfl
 | flt _=>obtain⟨t,rfl⟩:=r; rfl
 | ref _=>cases r; rfl
 | ty _=>cases r; rfl
theorem RelV.inj {x y:V} {u:Value} (r:RelV x u) (q:RelV y u):x=y:=Option.some.inj (r.abs.symm.trans q.abs)
theorem Vals.inj:∀ {xs ys:List V} {us:List Value},Vals xs us->Vals ys us->xs=ys
 | _,_,_,.nil,.nil=>rfl
 | _,_,_,.cons r t,.cons r' t'=>by rw[r.inj r',Vals.inj t t']
section
variable {X:Cx} {pins:List (Addr×Obj)} {σ:St} {H:Hp} {s:Shared} {a:Addr} {xs ys:List V}
theorem SqL.of {K:PySem.W.Frag} (h:H a=some (.lst xs)):SqL K H a xs:=.inl (.inl h)
theorem SqT.of {K:PySem.W.Frag} (h:H a=some (.tup xs)):SqT K H a xs:=.inl (.inl h)
theorem Inv.list (I:Inv X pins σ H s) (h:SqL X.K H a xs):∃ its:List Value,Vals xs its/\PlainL s.heap a its.toArray/\xs.length<=sizeLine:=by
 rcases h with h | ⟨o,its,n,hk,hc,hd,hs,hz,r⟩
 ·obtain⟨z,its,n,r,e⟩:=h.ok I.hok
  exact⟨its,r,⟨_,n,e,rfl,rfl,rfl⟩,z⟩
 ·refine⟨its.toList,r,⟨o,n,I.kIn a o hk,hc,hd,by simpa using hs⟩,?_⟩
  have e:=r.length
  simp only[Array.length_toList] at e
  omega
theorem Inv.tuple (I:Inv X pins σ H s) (h:SqT X.K H a xs):∃ its:List Value,Vals xs its/\IsTup s.heap a its.toArray/\xs.length<=sizeLine:=by
 rcases h with h | ⟨o,its,n,hk,hc,hs,hz,r⟩
 ·obtain⟨z,its,r,p⟩:=h.ok I.hok
  exact⟨its,r,p,z⟩
 ·refine⟨its.toList,r,⟨o,I.kIn a o hk,hc,n,by simpa using hs⟩,?_⟩
  have e:=r.length
  simp only[Array.length_toList] at e
  omega
theorem Inv.list_inj (I:Inv X pins σ H s) (h:SqL X.K H a xs) (h':SqL X.K H a ys):xs=ys:=by
 obtain⟨its,r,⟨o,n,e,_,_,d⟩,_⟩:=I.list h
 obtain⟨its',r',⟨o',n',e',_,_,d'⟩,_⟩:=I.list h'
 rw[e] at e'; cases e'
 rw[d] at d'
 injection d' with d1 _
 have:its=its':=by simpa using congrArg Array.toList d1
 subst this
 exact r.inj r'
end
abbrev Cx.wish (X:Cx) (E:Value->Shared->Prop):Cx:={ X with xe:=E }
abbrev Cx.nox (X:Cx):Cx:=X.wish fun _ _=>False
theorem Cx.Ok.wish {X:Cx} (ok:X.Ok) (E:Value->Shared->Prop):(X.wish E).Ok:=
 ⟨ok.mod,ok.kind,ok.glob,ok.blt,ok.above,ok.inj,ok.has,ok.cab,ok.hd,ok.frames,ok.stk,ok.exf,ok.bs,ok.bsz,ok.noex,ok.exfs,ok.funs,ok.frf⟩
theorem Cx.Ok.unwish {X:Cx} {E:Value->Shared->Prop} (ok:(X.wish E).Ok):X.Ok:=
 ⟨ok.mod,ok.kind,ok.glob,ok.blt,ok.above,ok.inj,ok.has,ok.cab,ok.hd,ok.frames,ok.stk,ok.exf,ok.bs,ok.bsz,ok.noex,ok.exfs,ok.funs,ok.frf⟩
section
variable {X:Cx} {pins:List (Addr×Obj)} {σ:St} {H:Hp} {s:Shared} {E:Value->Shared->Prop}
theorem Inv.wish (I:Inv X pins σ H s) (E:Value->Shared->Prop):Inv (X.wish E) pins σ H s:=⟨I.ok.wish E,I.os,I.bare,I.base,I.loc,I.cell,I.free,I.freeC,I.pin,I.hok,I.len⟩
theorem Inv.unwish (I:Inv (X.wish E) pins σ H s):Inv X pins σ H s:=⟨I.ok.unwish,I.os,I.bare,I.base,I.loc,I.cell,I.free,I.freeC,I.pin,I.hok,I.len⟩
theorem SP.unwish {D:Ends} {f:Flow} {s':Shared} (h:SP (X.wish E) pins D f s'):SP X pins D f s':=by
 cases f with
 | next=>obtain⟨σ',H',I,q⟩:=h; exact⟨σ',H',I.unwish,q⟩
 | brk=>obtain⟨σ',H',I,q⟩:=h; exact⟨σ',H',I.unwish,q⟩
 | cont=>obtain⟨σ',H',I,q⟩:=h; exact⟨σ',H',I.unwish,q⟩
 | ret u=>obtain⟨v,σ',H',I,r,q⟩:=h; exact⟨v,σ',H',I.unwish,r,q⟩
theorem PSs.nox {st:List Stmt} {t:TS} (h:PSs X.nox st t):PSs X st t:=fun pins s σ H D I hw=>
 wpAny_mono (h pins s σ H D (I.wish _) hw) (fun _ _ q=>q.unwish) fun _ _ z=>False.elim z
end
section
variable {X:Cx} {st:Stmt} {rest:List Stmt} {t u:TS} {e:Expr} {te:TE} {pos:Pos}
def tNext:TS:=fun D σ H=>D.nx σ H
def tSeq (t u:TS):TS:=fun D σ H=>t { D with nx:=u D } σ H
theorem pss_nil:PSs X [] tNext:=fun _ _ σ H _ I h=>wpAny_execs_nil ⟨σ,H,I,h⟩
theorem pss_cons (h1:PS X st t) (h2:PSs X rest u):PSs X (st::rest) (tSeq t u):=by
 intro pins s σ H D I h
 refine wpAny_execs_cons (thn (h1 pins s σ H { D with nx:=u D } I h) fun f s1 q=>?_)
 cases f with
 | next=>
  obtain⟨σ',H',I',q⟩:=q
  exact h2 pins s1 σ' H' D I' q
 | ret v=>exact q
 | brk=>exact q
 | cont=>exact q
theorem pss_one (h1:PS X st t):PSs X [st] t:=by
 intro pins s σ H D I h
 refine wpAny_execs_cons (thn (h1 pins s σ H D I h) fun f s1 q=>?_)
 cases f with
 | next=>exact wpAny_execs_nil q
 | ret v=>exact q
 | brk=>exact q
 | cont=>exact q
theorem Inv.quiet {pins:List (Addr×Obj)} {σ:St} {H:Hp} {s:Shared} (I:Inv X pins σ H s):interactive X.env=false:=by simp[interactive,I.ok.kind]
def tDrop (te:TE):TS:=fun D σ H=>te σ H fun _ H1=>D.nx σ H1
theorem ps_expr (he:PE X e te) (hs:swapsWith e none pos.line X.env=pure false:=by rfl):PS X (.Expr e pos) (tDrop te):=by
 intro pins s σ H D I h
 exact wpAny_Expr_any (thn (he pins s σ H _ I h) fun v s1 ⟨x,H1,I1,r1,q1⟩=>⟨σ,H1,I1,q1⟩) I.quiet hs
def tRet (te:TE):TS:=fun D σ H=>te σ H D.rt
theorem ps_ret (he:PE X e te):PS X (.Return (some e) pos) (tRet te):=by
 intro pins s σ H D I h
 exact wpAny_Return_some (thn (he pins s σ H _ I h) fun v s1 ⟨x,H1,I1,r1,q1⟩=>⟨x,σ,H1,I1,r1,q1⟩)
def tIfS (c:TT) (t u:TS):TS:=fun D σ H=>c σ H fun b H1=>if b=true then t D σ H1 else u D σ H1
theorem ps_if {c:Expr} {a b:List Stmt} {tc:TT} (hc:PT X c tc) (ha:PSs X a t) (hb:PSs X b u):PS X (.If c a b pos) (tIfS tc t u):=by
 intro pins s σ H D I h
 refine wpAny_If (thn (hc pins s σ H _ I h) fun d s1 ⟨H1,I1,q1⟩=>?_)
 cases d with
 | true=>exact ha pins s1 σ H1 D I1 q1
 | false=>exact hb pins s1 σ H1 D I1 q1
end
abbrev TG:=V->St->Hp->(St->Hp->Prop)->Prop
abbrev TGs:=List V->St->Hp->(St->Hp->Prop)->Prop
def PG (X:Cx) (target:Expr) (t:TG):Prop:=
 ∀ (pins:List (Addr×Obj)) (s:Shared) (σ:St) (H:Hp) (v:V) (u:Value) (Q:St->Hp->Prop),Inv X pins σ H s->RelV v u->t v σ H Q ->
  wpAny (model X.prog X.w) X.A (assign target X.env u) (fun _ s'=>∃ σ' H',Inv X pins σ' H' s'/\Q σ' H') X.xe s
def PGs (X:Cx) (ts:List Expr) (t:TGs):Prop:=
 ∀ (pins:List (Addr×Obj)) (s:Shared) (σ:St) (H:Hp) (vs:List V) (us:List Value) (Q:St->Hp->Prop),Inv X pins σ H s->Vals vs us->t vs σ H Q ->
  wpAny (model X.prog X.w) X.A (assignInOrder ((assignEach ts X.env).map (·.2)) us) (fun _ s'=>∃ σ' H',Inv X pins σ' H' s'/\Q σ' H') X.xe s
abbrev TSet:=V->V->V->Hp->(Hp->Prop)->Prop
abbrev TIp:=V->V->Hp->VK->Prop
section
variable {X:Cx} {pos:Pos}
def gName (i:Nat):TG:=fun v σ H Q=>Q (σ.set i (some v)) H
theorem pg_name {i:Nat} {x:Str} (hN:X.N.Nodup) (hi:X.N[i]?=some x) (hx:Loc X.env.scope x) (hf:X.fn x=true\/X.env.scope.names.lookup x=some .local:=by first | exact .inl rfl | exact .inr rfl | assumption):PG X (.Name x pos) (gName i):=by
 intro pins s σ H v u Q I r h
 exact wpAny_assign_Name (store_ok I hN hi hx r (fun s' I'=>⟨_,H,I',h⟩) hf)
def gNil:TGs:=fun vs σ H Q=>vs=[]/\Q σ H
def gCons (t:TG) (u:TGs):TGs:=fun vs σ H Q=>∃ v r,vs=v::r/\t v σ H fun σ' H'=>u r σ' H' Q
theorem pgs_nil:PGs X [] gNil:=by
 intro pins s σ H vs us Q I r h
 obtain⟨e,h⟩:=h
 subst e
 cases r
 exact assignInOrder_nil ⟨σ,H,I,h⟩
theorem pgs_cons {e:Expr} {es:List Expr} {t:TG} {u:TGs} (h1:PG X e t) (h2:PGs X es u)
  (hs:(assignEach (e::es) X.env).map (·.2)=assign e X.env::(assignEach es X.env).map (·.2):=by rfl):PGs X (e::es) (gCons t u):=by
 intro pins s σ H vs us Q I r h
 obtain⟨v,vr,e1,h⟩:=h
 subst e1
 cases r with
 | cons r rr=>
  rw[hs]
  refine assignInOrder_cons (thn (h1 pins s σ H _ _ _ I r h) fun _ s1 ⟨σ1,H1,I1,q1⟩=>?_)
  exact h2 pins s1 σ1 H1 _ _ Q I1 rr q1
def gTup (K:PySem.W.Frag) (n:Nat) (t:TGs):TG:=fun v σ H Q=>∃ a xs,v=.ref a/\SqT K H a xs/\xs.length=n/\t xs σ H Q
theorem pg_tup {es:List Expr} {k:Nat} {t:TGs} {n:Nat} (hc:X.calm=true) (h:PGs X es t)
  (hn:(assignEach es X.env).length=n:=by rfl) (hst:(assignEach es X.env).findIdx? (·.1)=none:=by rfl):PG X (.Tuple es k pos) (gTup X.K n t):=by
 intro pins s σ H v u Q I r hw
 obtain⟨a,xs,e1,hq,hl,hw⟩:=hw
 subst e1
 cases r
 obtain⟨its,rv,ht,hz⟩:=I.tuple hq
 refine assign_Tuple_tuple (I.ok.hd hc) ht (by simp[hn,← hl,rv.length]) hst fun h' hx=>?_
 have I1:Inv X pins σ H { s with heap:=h' }:=I.kept (t':=s.toks) fun b o e=>hx b o (Nat.ne_of_lt (Heap.lt_size e)) e
 exact h pins _ σ H xs _ Q I1 (by simpa using rv) hw
def tAsg (te:TE) (g:TG):TS:=fun D σ H=>te σ H fun x H1=>g x σ H1 D.nx
theorem ps_set {i:Nat} {x:Str} {e:Expr} {te:TE} {pos':Pos} (hN:X.N.Nodup) (hi:X.N[i]?=some x) (hx:Loc X.env.scope x) (he:PE X e te) (hs:swapsWith e (some (.Name x pos')) pos.line X.env=pure false:=by rfl) (hf:X.fn x=true\/X.env.scope.names.lookup x=some .local:=by first | exact .inl rfl | exact .inr rfl | assumption) :
  PS X (.Assign [.Name x pos'] e pos) (tAsg te (gName i)):=by
 intro pins s σ H D I h
 refine wpAny_Assign_Name (thn (he pins s σ H _ I h) fun v s1 ⟨y,H1,I1,r1,q1⟩=>?_) hs
 exact store_ok I1 hN hi hx r1 (fun s2 I2=>⟨_,H1,I2,q1⟩) hf
end
section
variable {X:Cx} {pos:Pos}
end
structure It where
 go:Nat->Hp->Prop
 yld:Nat->Hp->V->Hp->Prop
 stop:Nat->Hp->Prop
def FpOk (X:Cx) (pins:List (Addr×Obj)) (H:Hp) (b:Addr):Prop:=
 H b=none/\b≠X.env.locals/\b∉X.fs/\(b∈X.ex\/X.s₀.heap.objs.size<=b)/\(∀ x c,X.env.cells.lookup x=some c->c≠b)/\∀ p∈X.pn++pins,p.1≠b
theorem Inv.fpOk {X:Cx} {pins:List (Addr×Obj)} {σ:St} {H H':Hp} {s:Shared} {b:Addr} (I:Inv X pins σ H s) (hb:s.heap.objs.size<=b) (hn:H' b=none):FpOk X pins H' b:=by
 refine⟨hn,Nat.ne_of_gt (Nat.lt_of_lt_of_le I.lt hb),I.nofs hb,.inr (Nat.le_trans I.sz hb),fun x c e z=>?_,fun p hp z=>?_⟩
 ·obtain⟨v,q⟩:=I.cell x c e
  exact absurd (Nat.lt_of_lt_of_le q.lt (by rw[z]; exact hb)) (Nat.lt_irrefl _)
 ·exact absurd (Nat.lt_of_lt_of_le (Heap.lt_size (I.pin p hp).1) (by rw[z]; exact hb)) (Nat.lt_irrefl _)
structure Turn (P:Program) (w:World) (K:PySem.W.Frag) (tg:Expr) (J:It) (fp:List Addr) (it:Addr) (tn:Nat->Heap->Prop):Prop where
 mem:it∈fp
 obj:∀ i h,tn i h->∀ b∈fp,∃ o,h.get? b=some o/\∀ v,o.data≠.cell v
 keep:∀ i h h',tn i h->(∀ b∈fp,∀ o,h.get? b=some o->h'.get? b=some o)->tn i h'
 item:∀ (X:Cx),X.prog=P->X.w=w->X.K=K->X.calm=true->∀ (i:Nat) (pins:List (Addr×Obj)) (s:Shared) (σ:St) (H:Hp) (E:Value->Shared->Prop),Inv X pins σ H s->(∀ b∈fp,FpOk X pins H b)->tn i s.heap->J.go i H ->
  wpAny (model P w) X.A (pyNext (.ref it)) (fun r s1=>∃ u,r=some u /\
   wpAny (model P w) X.A (letOwnedTupleGo tg (.ref it) u) (fun _ s2=>∃ x H',Inv X pins σ H' s2/\RelV x u/\J.yld i H x H'/\tn (i+1) s2.heap/\∀ b∈fp,H' b=none) E s1) E s
 done:∀ (X:Cx),X.prog=P->X.w=w->X.K=K->X.calm=true->∀ (i:Nat) (pins:List (Addr×Obj)) (s:Shared) (σ:St) (H:Hp) (E:Value->Shared->Prop),Inv X pins σ H s->(∀ b∈fp,FpOk X pins H b)->tn i s.heap->J.stop i H ->
  wpAny (model P w) X.A (pyNext (.ref it)) (fun r s1=>r=none/\Inv X pins σ H s1) E s
 self:∀ (A:Around) (i:Nat) (s:Shared) (Q:Value->Shared->Prop) (E:Value->Shared->Prop),tn i s.heap->Q (.ref it) s->wpAny (model P w) A (pyIter (.ref it)) Q E s
abbrev TI:=St->Hp->(It->Hp->Prop)->Prop
def PIE (X:Cx) (pins:List (Addr×Obj)) (σ:St) (tg:Expr) (R:It->Hp->Prop) (itv:Value) (s2:Shared):Prop:=
 ∃ (it:Addr) (fp:List Addr) (tn:Nat->Heap->Prop) (J:It) (H':Hp),itv=.ref it/\Inv X pins σ H' s2/\Turn X.prog X.w X.K tg J fp it tn/\tn 0 s2.heap/\(∀ b∈fp,FpOk X pins H' b)/\R J H'
def PI (X:Cx) (tg iter:Expr) (wi:TI):Prop:=
 ∀ (pins:List (Addr×Obj)) (s:Shared) (σ:St) (H:Hp) (R:It->Hp->Prop),Inv X pins σ H s->wi σ H R ->
  wpAny (model X.prog X.w) X.A (eval iter X.env) (fun v s1=>wpAny (model X.prog X.w) X.A (pyIter v) (PIE X pins σ tg R) X.xe s1) X.xe s
theorem go_of {M:Model} {A:Around} {E:Value->Shared->Prop} {s:Shared} {tg:Expr} {it:Addr} {u:Value} {o:Obj} {n:String} {vs:Array Value} {Q:Unit->Shared->Prop} (ho:s.heap.get? it=some o) (hc:o.cls=.type n) (hd:o.data=.fields vs)
  (hn:["enumerate", "zip", "dict_itemiterator", "dict_reverseitemiterator", "odict_iterator", "itertools.zip_longest", "itertools.pairwise"].contains n=false) (hQ:Q () s):wpAny M A (letOwnedTupleGo tg (.ref it) u) Q E s:=by
 unfold letOwnedTupleGo
 cases tg <;> first
  | exact wpAny_pure hQ
  | (cases u <;> first
    | exact wpAny_pure hQ
    | (refine wpAny_bind (wpAny_load ho ?_)
       rw[hc,hd]
       show wpAny M A (if (["enumerate", "zip", "dict_itemiterator", "dict_reverseitemiterator", "odict_iterator", "itertools.zip_longest", "itertools.pairwise"].contains n&&vs[0]? == some (rawInt _))=true then _ else _) Q E s
       rw[if_neg (by intro h; rw[hn,Bool.false_and] at h; cases h)]
       exact wpAny_pure hQ))
def Itl (K:PySem.W.Frag) (a:Addr):It:=
 ⟨fun i H=>∃ xs x,SqL K H a xs/\xs[i]?=some x,fun i H x H'=>H'=H/\∀ xs,SqL K H a xs->xs[i]?=some x,fun i H=>∃ xs,SqL K H a xs/\xs.length<=i⟩
def Itr (lo:Int) (n:Nat):It:=⟨fun i _=>i<n,fun i H x H'=>H'=H/\x=.int (lo+i),fun i _=>n<=i⟩
theorem turn_list {P:Program} {w:World} {K:PySem.W.Frag} {tg:Expr} (a it:Addr):Turn P w K tg (Itl K a) [it] it (fun i h=>h.IsListIter it a i) where
 mem:=by simp
 obj:=fun i h st b hb=>by
  have e:b=it:=by simpa using hb
  subst e
  obtain⟨o,e,c,d⟩:=st
  exact⟨o,e,fun v z=>by rw[d] at z; cases z⟩
 keep:=fun i h h' st k=>st.at fun o e=>k it (by simp) o e
 item:=by
  intro X hP hw hK hc i pins s σ H E I hf st hg
  subst hP hw hK
  obtain⟨xs,x,hq,hx⟩:=hg
  obtain⟨its,rv,p,hz⟩:=I.list hq
  obtain⟨u,hu,ru⟩:=rv.get hx
  obtain⟨f0,f1,f2,f3,f4,f5⟩:=hf it (by simp)
  refine wpAny_pyNext_list_item st p.isList (x:=u) (by simpa using hu) fun h' st' sb=>?_
  have I1:Inv X pins σ H { s with heap:=h' }:=I.turned (t':=s.toks) (fun b o hb e=>(sb.2 b hb).trans e) f0 f1 f3 f4 f5
  obtain⟨o,e,c,d⟩:=id st'
  exact⟨u,rfl,go_of (s:={ s with heap:=h' }) e c d (by decide) ⟨x,H,I1,ru,⟨rfl,fun ys hy=>by rw[I.list_inj hy hq]; exact hx⟩,st',fun b hb=>(hf b hb).1⟩⟩
 done:=by
  intro X hP hw hK hc i pins s σ H E I hf st hg
  subst hP hw hK
  obtain⟨xs,hq,hx⟩:=hg
  obtain⟨its,rv,p,hz⟩:=I.list hq
  obtain⟨f0,f1,f2,f3,f4,f5⟩:=hf it (by simp)
  have hl:=rv.length
  exact wpAny_pyNext_list_end (I.ok.hd hc) st p.isList (by simp; omega) fun h' eb=>⟨rfl,I.turned (t':=s.toks) (fun b o hb e=>eb b o hb e) f0 f1 f3 f4 f5⟩
 self:=fun _ _ _ _ _ st h=>wpAny_pyIter_listiter st h
theorem turn_range {P:Program} {w:World} {K:PySem.W.Frag} {tg:Expr} (it:Addr) (lo:Int) (n:Nat):Turn P w K tg (Itr lo n) [it] it (fun i h=>IsRangeIter h it (lo+(i:Nat)*1) ((n:Int)-(i:Nat)) 1) where
 mem:=by simp
 obj:=fun i h st b hb=>by
  have e:b=it:=by simpa using hb
  subst e
  exact⟨_,st,fun v z=>by
   have z':Data.fields _=Data.cell v:=z
   cases z'⟩
 keep:=fun i h h' st k=>k it (by simp) _ st
 item:=by
  intro X hP hw hK hc i pins s σ H E I hf st hg
  subst hP hw hK
  obtain⟨f0,f1,f2,f3,f4,f5⟩:=hf it (by simp)
  have W:=Walks.range (prog:=X.prog) (w:=X.w) (I.ok.hd hc) it lo 1 n
  refine W.item i s _ _ hg st fun v h' tk hv st' kk=>?_
  obtain⟨t,rfl⟩:=hv
  have I1:Inv X pins σ H { s with heap:=h',toks:=tk }:=I.turned (fun b o hb e=>kk b o (by simpa using hb) e) f0 f1 f3 f4 f5
  refine⟨_,rfl,go_of (s:={ s with heap:=h',toks:=tk }) (n := "range_iterator") st' rfl rfl (by decide) ⟨.int (lo+i),H,I1,⟨t,?_⟩,⟨rfl,rfl⟩,st',fun b hb=>(hf b hb).1⟩⟩
  rw[Int.mul_one]
 done:=by
  intro X hP hw hK hc i pins s σ H E I hf st hg
  subst hP hw hK
  obtain⟨f0,f1,f2,f3,f4,f5⟩:=hf it (by simp)
  exact wpAny_pyNext_range_end (I.ok.hd hc) st (by have:n<=i:=hg; omega) fun h' eb=>⟨rfl,I.turned (t':=s.toks) (fun b o hb e=>eb b o hb e) f0 f1 f3 f4 f5⟩
 self:=fun _ _ _ _ _ st h=>wpAny_pyIter_rangeiter st h
end L2
namespace L2
open PySem PySem.Spec PyProof.Rows
section
variable {X:Cx} {tg:Expr}
def iList (K:PySem.W.Frag) (tl:TE):TI:=fun σ H R=>tl σ H fun x H1=>∃ a,x=.ref a/\(∃ xs,SqL K H1 a xs)/\R (Itl K a) H1
theorem pi_list {l:Expr} {tl:TE} (hl:PE X l tl):PI X tg l (iList X.K tl):=by
 intro pins s σ H R I h
 refine thn (hl pins s σ H _ I h) fun v s1 ⟨x,H1,I1,r1,q1⟩=>?_
 obtain⟨a,e,⟨xs,hq⟩,q⟩:=q1
 subst e
 cases r1
 obtain⟨its,rv,p,hz⟩:=I1.list hq
 refine wpAny_pyIter_list p.isList ?_
 refine⟨s1.heap.objs.size,[s1.heap.objs.size],_,_,H1,rfl,I1.kept (t':=s1.toks) fun b o e=>Heap.get?_push_of_some _ e,turn_list a _,⟨_,Heap.get?_push_size _ rfl,rfl,rfl⟩,fun b hb=>?_,q⟩
 have e:b=s1.heap.objs.size:=by simpa using hb
 subst e
 exact I1.fpOk (Nat.le_refl _) (I1.hok.fresh (Nat.le_refl _))
theorem range_it {pins:List (Addr×Obj)} {σ:St} {H:Hp} {s:Shared} {R:It->Hp->Prop} {E:Value->Shared->Prop} {lo hi:Int} {t u v:Tok} {tk:Nat} (I:Inv X pins σ H s) (h1:-(2 ^ 62)<=lo) (h2:lo<2 ^ 62) (h3:-(2 ^ 62)<=hi) (h4:hi<2 ^ 62)
  (q:R (Itr lo (hi-lo).toNat) H):wpAny (model X.prog X.w) X.A (pyIter (.ref s.heap.objs.size)) (PIE X pins σ tg R) E { s with heap:=s.heap.push { cls:=.type "range",data:=.fields #[.int lo t,.int hi u,.int 1 v] },toks:=tk }:=by
 refine wpAny_pyIter_range (IsRange.new ..) (small_one h1 h2 h3 h4) ?_
 have I1:Inv X pins σ H { s with heap:=s.heap.push { cls:=.type "range",data:=.fields #[.int lo t,.int hi u,.int 1 v] },toks:=tk }:=I.kept fun b o e=>Heap.get?_push_of_some _ e
 refine⟨(s.heap.push { cls:=.type "range",data:=.fields #[.int lo t,.int hi u,.int 1 v] }).objs.size,[(s.heap.push { cls:=.type "range",data:=.fields #[.int lo t,.int hi u,.int 1 v] }).objs.size],_,_,H,rfl,
  I1.kept (t':=tk) fun b o e=>Heap.get?_push_of_some _ e,turn_range _ lo (hi-lo).toNat,?_,fun b hb=>?_,q⟩
 ·have e1:lo+((0:Nat):Int)*1=lo:=by simp
  have e2:(((hi-lo).toNat:Nat):Int)-((0:Nat):Int)=Builtin.Range.rangeSize lo hi 1:=by rw[rangeSize_one]; split <;> omega
  show IsRangeIter _ _ (lo+((0:Nat):Int)*1) ((((hi-lo).toNat:Nat):Int)-((0:Nat):Int)) 1
  rw[e1,e2]
  exact Heap.get?_push_size _ rfl
 ·have e:b=(s.heap.push { cls:=.type "range",data:=.fields #[.int lo t,.int hi u,.int 1 v] }).objs.size:=by simpa using hb
  subst e
  exact I1.fpOk (Nat.le_refl _) (I1.hok.fresh (Nat.le_refl _))
def iRng1 (ta:TA):TI:=fun σ H R=>ta σ H fun vs H1=>∃ j:Int,vs=[.int j] /\ -(2 ^ 62)<=j/\j<2 ^ 62/\R (Itr 0 j.toNat) H1
theorem pi_range1 {a:Expr} {ta:TA} {p pos:Pos} (hg:Gl X "range") (hm:X.mg "range" = none) (ha:PA X [a] ta) (hs:starEach [a] X.env=[(false,eval a X.env)]:=by rfl):PI X tg (.Call (.Name "range" p) [a] [] pos) (iRng1 ta):=by
 intro pins s σ H R I h
 refine Call_ (ld_blt I hg hm boot_range (PyProof.Rows.callWith_type1 (thn (ha pos pins s σ H _ I h) fun us s1 ⟨vs,H1,I1,r1,q1⟩=>?_) hs rfl))
 obtain⟨j,e,q1,q2,q⟩:=q1
 subst e
 cases r1 with
 | cons r rr=>
  cases rr
  obtain⟨t,rfl⟩:=r
  exact call_range_1 (range_it I1 (by omega) (by omega) q1 q2 (by simpa using q))
def tFor (wi:TI) (g:TG) (tb:TS):TS:=fun D σ H=>wi σ H fun J H1=>∃ W:Nat->Nat->St->Hp->Prop,(∃ m,W 0 m σ H1)/\∀ i m σ H,W i m σ H ->
 (J.stop i H/\D.nx σ H)\/(J.go i H/\∃ N:St->Hp->Prop,(∀ σ' H',N σ' H'->∃ m',m'<m/\W (i+1) m' σ' H')/\∀ x H',J.yld i H x H'->g x σ H' fun σ2 H2=>tb { D with nx:=N,ct:=N,bk:=D.nx } σ2 H2)
def pinsAt (fp:List Addr) (h:Heap):List (Addr×Obj):=fp.filterMap fun b=>(h.get? b).map fun o=>(b,o)
theorem mem_pinsAt {fp:List Addr} {h:Heap} {b:Addr} {o:Obj} (hb:b∈fp) (e:h.get? b=some o):(b,o)∈pinsAt fp h:=List.mem_filterMap.mpr ⟨b,hb,by rw[e]; rfl⟩
theorem of_pinsAt {fp:List Addr} {h:Heap} {p:Addr×Obj} (hp:p∈pinsAt fp h):p.1∈fp/\h.get? p.1=some p.2:=by
 obtain⟨b,hb,e⟩:=List.mem_filterMap.mp hp
 cases q:h.get? b with
 | none=>rw[q] at e; cases e
 | some o=>
  rw[q] at e
  have e':(b,o)=p:=Option.some.inj e
  subst e'
  exact⟨hb,q⟩
theorem Inv.pinned {pins:List (Addr×Obj)} {σ:St} {H:Hp} {s:Shared} {fp:List Addr} (I:Inv X pins σ H s) (hf:∀ b∈fp,FpOk X pins H b) (ho:∀ b∈fp,∃ o,s.heap.get? b=some o/\∀ v,o.data≠.cell v):Inv X (pins++pinsAt fp s.heap) σ H s:=
 I.pins_of fun p hp=>(List.mem_append.mp hp).elim (fun z=>I.pin p (List.mem_append_right _ z)) fun z=>by
  obtain⟨hb,e⟩:=of_pinsAt z
  obtain⟨f0,f1,f2,_⟩:=hf p.1 hb
  obtain⟨o,e',d⟩:=ho p.1 hb
  rw[e] at e'; cases e'
  exact⟨e,f0,f1,f2,d⟩
theorem Inv.unpinned {pins pl:List (Addr×Obj)} {σ:St} {H:Hp} {s:Shared} (I:Inv X (pins++pl) σ H s):Inv X pins σ H s:=I.pins_of fun p hp=>I.pin p (List.mem_append_right _ (List.mem_append_left _ hp))
theorem ps_for {iter:Expr} {body:List Stmt} {wi:TI} {g:TG} {tb:TS} {pos:Pos} (hp:PassesOwn (model X.prog X.w) X.A X.env X.xe) (hc:X.calm=true) (hi:PI X tg iter wi) (hg:PG X tg g) (hb:PSs X body tb)
  (hs:∀ x,foldedSetIterable iter X.env x=pure x:=by intro _; rfl):PS X (.For tg iter body [] pos) (tFor wi g tb):=by
 intro pins s σ H D I h
 refine wpAny_For (thn (hi pins s σ H _ I h) fun v s1 h1=>thn h1 fun itv s2 h2=>?_) hs
 obtain⟨it,fp,tn,J,H2,e,I2,T,st2,f2,W,⟨m0,w0⟩,turn⟩:=h2
 subst e
 have stat:∀ {H':Hp},(∀ b∈fp,H' b=none)->∀ b∈fp,FpOk X pins H' b:=fun hn b hb=>⟨hn b hb,(f2 b hb).2⟩
 refine codeAny_forLoop_any (fun n s'=>∃ i σ' H',Inv X pins σ' H' s'/\tn i s'.heap/\(∀ b∈fp,H' b=none)/\W i n σ' H') ?_ m0 ⟨0,σ,H2,I2,st2,fun b hb=>(f2 b hb).1,w0⟩
 rintro n s3 ⟨i,σ3,H3,I3,st3,fr3,w3⟩
 rcases turn i n σ3 H3 w3 with ⟨stop,qn⟩ | ⟨go,N,hN,step⟩
 ·refine wpAny_passesOwn hp (thn (T.done X rfl rfl rfl hc i pins s3 σ3 H3 X.xe I3 (stat fr3) st3 stop) fun r s4 ⟨hr,I4⟩=>?_)
  subst hr
  exact wpAny_execs_nil ⟨σ3,H3,I4,qn⟩
 ·refine wpAny_passesOwn hp (thn (T.item X rfl rfl rfl hc i pins s3 σ3 H3 X.xe I3 (stat fr3) st3 go) fun r s4 ⟨u,hr,h4⟩=>?_)
  subst hr
  refine wpAny_passesOwn hp (thn h4 fun _ s5 ⟨x,H5,I5,r5,y5,st5,fr5⟩=>?_)
  have I5':=I5.pinned (stat fr5) (T.obj _ _ st5)
  refine wpAny_passesOwn hp (thn (hg _ s5 σ3 H5 x u _ I5' r5 (step x H5 y5)) fun _ s6 ⟨σ6,H6,I6,q6⟩=>?_)
  refine wpAny_passesOwn hp (thn (hb _ s6 σ6 H6 _ I6 q6) fun f s7 q7=>?_)
  have again:∀ {σ7:St} {H7:Hp},Inv X (pins++pinsAt fp s5.heap) σ7 H7 s7->N σ7 H7->∃ m,m<n/\∃ i σ' H',Inv X pins σ' H' s7/\tn i s7.heap/\(∀ b∈fp,H' b=none)/\W i m σ' H':=fun {σ7 H7} I7 n7=>by
   obtain⟨m',hm,w7⟩:=hN σ7 H7 n7
   refine⟨m',hm,i+1,σ7,H7,I7.unpinned,T.keep _ _ _ st5 fun b hb o e=>(I7.pin (b,o) (List.mem_append_right _ (List.mem_append_right _ (mem_pinsAt hb e)))).1,fun b hb=>?_,w7⟩
   obtain⟨o,e,d⟩:=T.obj _ _ st5 b hb
   exact (I7.pin (b,o) (List.mem_append_right _ (List.mem_append_right _ (mem_pinsAt hb e)))).2.1
  cases f with
  | next=>obtain⟨σ7,H7,I7,n7⟩:=q7; exact again I7 n7
  | cont=>obtain⟨σ7,H7,I7,n7⟩:=q7; exact again I7 n7
  | brk=>obtain⟨σ7,H7,I7,q7⟩:=q7; exact⟨σ7,H7,I7.unpinned,q7⟩
  | ret v=>obtain⟨x7,σ7,H7,I7,r7,q7⟩:=q7; exact⟨x7,σ7,H7,I7.unpinned,r7,q7⟩
end
theorem for_list {K:PySem.W.Frag} {a:Addr} {xs:List V} {g:TG} {tb:TS} {D:Ends} {σ:St} {H:Hp} (Pv:Nat->St->Hp->Prop) (h0:Pv 0 σ H) (hl:∀ i σ H,i<=xs.length->Pv i σ H->SqL K H a xs)
  (hs:∀ i x σ H,xs[i]?=some x->Pv i σ H->g x σ H fun σ2 H2=>tb { D with nx:=Pv (i+1),ct:=Pv (i+1),bk:=D.nx } σ2 H2) (hd:∀ σ H,Pv xs.length σ H->D.nx σ H) :
  ∃ W:Nat->Nat->St->Hp->Prop,(∃ m,W 0 m σ H)/\∀ i m σ H,W i m σ H ->
   ((Itl K a).stop i H/\D.nx σ H)\/((Itl K a).go i H/\∃ N:St->Hp->Prop,(∀ σ' H',N σ' H'->∃ m',m'<m/\W (i+1) m' σ' H')/\∀ x H',(Itl K a).yld i H x H'->g x σ H' fun σ2 H2=>tb { D with nx:=N,ct:=N,bk:=D.nx } σ2 H2):=by
 refine⟨fun i m σ H=>m=xs.length-i/\i<=xs.length/\Pv i σ H,⟨xs.length,by simp,Nat.zero_le _,h0⟩,?_⟩
 rintro i m σ H ⟨rfl,hi,p⟩
 have q:=hl i σ H hi p
 by_cases hlt:i<xs.length
 ·refine .inr ⟨⟨xs,xs[i],q,by simp[hlt]⟩,Pv (i+1),fun σ' H' p'=>⟨xs.length-(i+1),by omega,rfl,hlt,p'⟩,fun x H' y=>?_⟩
  obtain⟨e,y⟩:=y
  subst e
  exact hs i x σ _ (y xs q) p
 ·have e:i=xs.length:=by omega
  subst e
  exact .inl ⟨⟨xs,q,Nat.le_refl _⟩,hd σ H p⟩
theorem for_range {lo:Int} {n:Nat} {g:TG} {tb:TS} {D:Ends} {σ:St} {H:Hp} (Pv:Nat->St->Hp->Prop) (h0:Pv 0 σ H)
  (hs:∀ i σ H,i<n->Pv i σ H->g (.int (lo+i)) σ H fun σ2 H2=>tb { D with nx:=Pv (i+1),ct:=Pv (i+1),bk:=D.nx } σ2 H2) (hd:∀ σ H,Pv n σ H->D.nx σ H) :
  ∃ W:Nat->Nat->St->Hp->Prop,(∃ m,W 0 m σ H)/\∀ i m σ H,W i m σ H ->
   ((Itr lo n).stop i H/\D.nx σ H)\/((Itr lo n).go i H/\∃ N:St->Hp->Prop,(∀ σ' H',N σ' H'->∃ m',m'<m/\W (i+1) m' σ' H')/\∀ x H',(Itr lo n).yld i H x H'->g x σ H' fun σ2 H2=>tb { D with nx:=N,ct:=N,bk:=D.nx } σ2 H2):=by
 refine⟨fun i m σ H=>m=n-i/\i<=n/\Pv i σ H,⟨n,by simp,Nat.zero_le _,h0⟩,?_⟩
 rintro i m σ H ⟨rfl,hi,p⟩
 by_cases hlt:i<n
 ·refine .inr ⟨hlt,Pv (i+1),fun σ' H' p'=>⟨n-(i+1),by omega,rfl,hlt,p'⟩,fun x H' y=>?_⟩
  obtain⟨e,y⟩:=y
  subst e y
  exact hs i σ _ hlt p
 ·have e:i=n:=by omega
  subst e
  exact .inl ⟨Nat.le_refl _,hd σ H p⟩
end L2
namespace L2
open PySem PySem.Spec PyProof.Rows
abbrev R2:=V->V->Hp->VK->Prop
def OpR (X:Cx) (f:Value->Value->Sem Value) (r:R2):Prop:=
 ∀ (pins:List (Addr×Obj)) (s:Shared) (σ:St) (H:Hp) (x y:V) (v u:Value) (Q:VK),Inv X pins σ H s->RelV x v->RelV y u->r x y H Q ->
  wpAny (model X.prog X.w) X.A (f v u) (EP X pins σ Q) X.xe s
def UnR (X:Cx) (f:Value->Sem Value) (r:V->Hp->VK->Prop):Prop:=
 ∀ (pins:List (Addr×Obj)) (s:Shared) (σ:St) (H:Hp) (x:V) (v:Value) (Q:VK),Inv X pins σ H s->RelV x v->r x H Q ->
  wpAny (model X.prog X.w) X.A (f v) (EP X pins σ Q) X.xe s
def CallR (X:Cx) (f:Value) (r:List V->Hp->VK->Prop):Prop:=
 ∀ (pins:List (Addr×Obj)) (s:Shared) (σ:St) (H:Hp) (xs:List V) (us:List Value) (Q:VK),Inv X pins σ H s->Vals xs us->r xs H Q ->
  wpAny (model X.prog X.w) X.A (call f us) (EP X pins σ Q) X.xe s
def tOp (r:R2) (ta tb:TE):TE:=fun σ H Q=>ta σ H fun x H1=>tb σ H1 fun y H2=>r x y H2 Q
def tUn (r:V->Hp->VK->Prop) (ta:TE):TE:=fun σ H Q=>ta σ H fun x H1=>r x H1 Q
def rI (C:Int->Int->Prop) (g:Int->Int->V):R2:=fun x y H Q=>∃ i j,x=.int i/\y=.int j/\C i j/\Q (g i j) H
def rI0 (g:Int->Int->V):R2:=fun x y H Q=>∃ i j,x=.int i/\y=.int j/\Q (g i j) H
def rU (g:Int->V):V->Hp->VK->Prop:=fun x H Q=>∃ i,x=.int i/\Q (g i) H
section
variable {X:Cx} {a b c:Expr} {ta tb tc:TE} {pos:Pos}
theorem binT (ha:PE X a ta) (hb:PE X b tb) {pins:List (Addr×Obj)} {s:Shared} {σ:St} {H:Hp} {R:V->V->Hp->Prop} (I:Inv X pins σ H s)
  (h:ta σ H fun x H1=>tb σ H1 fun y H2=>R x y H2) {Q:Value->Shared->Prop} {f:Value->Value->Sem Value}
  (hf:∀ v u s2 x y H2,Inv X pins σ H2 s2->RelV x v->RelV y u->R x y H2->wpAny (model X.prog X.w) X.A (f v u) Q X.xe s2) :
  wpAny (model X.prog X.w) X.A (eval a X.env) (fun v s₁=>wpAny (model X.prog X.w) X.A (eval b X.env) (fun u s₂=>wpAny (model X.prog X.w) X.A (f v u) Q X.xe s₂) X.xe s₁) X.xe s:=by
 refine thn (ha pins s σ H _ I h) fun v s1 ⟨x,H1,I1,r1,q1⟩=>?_
 refine thn (hb pins s1 σ H1 _ I1 q1) fun u s2 ⟨y,H2,I2,r2,q2⟩=>?_
 exact hf v u s2 x y H2 I2 r1 r2 q2
theorem pe_op {op:Operator} {r:R2} (ho:OpR X (binaryOp op) r) (ha:PE X a ta) (hb:PE X b tb):PE X (.BinOp a op b pos) (tOp r ta tb):=by
 intro pins s σ H Q I h
 exact wpAny_BinOp (binT ha hb I h fun v u s2 x y H2 I2 rx ry q=>ho pins s2 σ H2 x y v u Q I2 rx ry q)
theorem pe_un {op:UnaryOp} {r:V->Hp->VK->Prop} (ho:UnR X (unaryOp op) r) (ha:PE X a ta):PE X (.UnaryOp op a pos) (tUn r ta):=by
 intro pins s σ H Q I h
 exact UnaryOp_ (thn (ha pins s σ H _ I h) fun v s1 ⟨x,H1,I1,r1,q1⟩=>ho pins s1 σ H1 x v Q I1 r1 q1)
theorem opI {f:Value->Value->Sem Value} {C:Int->Int->Prop} {g:Int->Int->Int}
  (rule:∀ (i j:Int) (t u:Tok) (s:Shared) (Q:Value->Shared->Prop) (E:Value->Shared->Prop),C i j->Q (.int (g i j) s.toks) { s with toks:=s.toks+1 }->wpAny (model X.prog X.w) X.A (f (.int i t) (.int j u)) Q E s) :
  OpR X f (rI C fun i j=>.int (g i j)):=by
 intro pins s σ H x y v u Q I rx ry h
 obtain⟨i,j,rfl,rfl,hc,q⟩:=h
 obtain⟨t,rfl⟩:=rx
 obtain⟨t',rfl⟩:=ry
 exact rule i j t t' s _ _ hc ⟨.int (g i j),H,I.tok _,⟨_,rfl⟩,q⟩
theorem opI0 {f:Value->Value->Sem Value} {g:Int->Int->Int}
  (rule:∀ (i j:Int) (t u:Tok) (s:Shared) (Q:Value->Shared->Prop) (E:Value->Shared->Prop),Q (.int (g i j) s.toks) { s with toks:=s.toks+1 }->wpAny (model X.prog X.w) X.A (f (.int i t) (.int j u)) Q E s) :
  OpR X f (rI0 fun i j=>.int (g i j)):=by
 intro pins s σ H x y v u Q I rx ry h
 obtain⟨i,j,rfl,rfl,q⟩:=h
 obtain⟨t,rfl⟩:=rx
 obtain⟨t',rfl⟩:=ry
 exact rule i j t t' s _ _ ⟨.int (g i j),H,I.tok _,⟨_,rfl⟩,q⟩
theorem opB0 {f:Value->Value->Sem Value} {g:Int->Int->Bool}
  (rule:∀ (i j:Int) (t u:Tok) (s:Shared) (Q:Value->Shared->Prop) (E:Value->Shared->Prop),Q (.bool (g i j)) s->wpAny (model X.prog X.w) X.A (f (.int i t) (.int j u)) Q E s) :
  OpR X f (rI0 fun i j=>.bl (g i j)):=by
 intro pins s σ H x y v u Q I rx ry h
 obtain⟨i,j,rfl,rfl,q⟩:=h
 obtain⟨t,rfl⟩:=rx
 obtain⟨t',rfl⟩:=ry
 exact rule i j t t' s _ _ ⟨.bl (g i j),H,I,rfl,q⟩
def CDiv (i j:Int):Prop:=0<j/\j<1073741824
def CMul (i j:Int):Prop:=(-(2 ^ 64)<i/\i<2 ^ 64)\/(-(2 ^ 64)<j/\j<2 ^ 64)
theorem CMul.ok {i j:Int} (h:CMul i j):IntMulOk i j:=by
 rcases h with ⟨h1,h2⟩ | ⟨h1,h2⟩
 ·exact .of_left (intBits_le_64 h1 h2)
 ·exact .of_right (intBits_le_64 h1 h2)
theorem op_add:OpR X (binaryOp .Add) (rI0 fun i j=>.int (i+j)):=opI0 fun _ _ _ _ _ _ _ q=>add_int q
theorem op_mul:OpR X (binaryOp .Mult) (rI CMul fun i j=>.int (i*j)):=opI fun _ _ _ _ _ _ _ hc q=>mul_int q hc.ok
theorem op_fdiv:OpR X (binaryOp .FloorDiv) (rI CDiv fun i j=>.int (i/j)):=opI fun i j _ _ _ _ _ hc q=>by
 have h1:(0:Int)<j:=hc.1
 have h2:j<1073741824:=hc.2
 exact floordiv_int (by omega) (by rw[Int.fdiv_eq_ediv_of_nonneg i (by omega)]; exact q) (.inl (PyProof.noPylong_small (by omega)))
theorem op_mod:OpR X (binaryOp .Mod) (rI (fun _ j=>0<j) fun i j=>.int (i % j)):=opI fun i j _ _ _ _ _ hc q=>by
 have h1:(0:Int)<j:=hc
 exact mod_int' (by omega) (by rw[Int.fmod_eq_emod_of_nonneg i (by omega)]; exact q)
theorem unI {f:Value->Sem Value} {g:Int->Int}
  (rule:∀ (i:Int) (t:Tok) (s:Shared) (Q:Value->Shared->Prop) (E:Value->Shared->Prop),Q (.int (g i) s.toks) { s with toks:=s.toks+1 }->wpAny (model X.prog X.w) X.A (f (.int i t)) Q E s) :
  UnR X f (rU fun i=>.int (g i)):=by
 intro pins s σ H x v Q I rx h
 obtain⟨i,rfl,q⟩:=h
 obtain⟨t,rfl⟩:=rx
 exact rule i t s _ _ ⟨.int (g i),H,I.tok _,⟨_,rfl⟩,q⟩
theorem un_neg:UnR X (unaryOp .USub) (rU fun i=>.int (-i)):=unI fun _ _ _ _ _ q=>neg_int q
end
def scal:V->V->Bool
 | .non,.non=>true | .non,.int _=>true | .int _,.non=>true | .non,.bl _=>true | .bl _,.non=>true | .non,.str _=>true | .str _,.non=>true
 | .int _,.int _=>true | .bl _,.bl _=>true | .str _,.str _=>true | .byt _,.byt _=>true
 | .int _,.str _=>true | .str _,.int _=>true | .bl _,.str _=>true | .str _,.bl _=>true
 | _,_=>false
def rEq:R2:=fun x y H Q=>scal x y=true/\Q (.bl (decide (x=y))) H
def rNe:R2:=fun x y H Q=>scal x y=true/\Q (.bl (!decide (x=y))) H
theorem dec_int {i j:Int}:decide (V.int i=V.int j)=(i == j):=by
 rw[Bool.eq_iff_iff]
 simp
theorem dec_bl {i j:Bool}:decide (V.bl i=V.bl j)=(i == j):=by
 rw[Bool.eq_iff_iff]
 simp
theorem dec_str {i j:Str}:decide (V.str i=V.str j)=(i == j):=by
 rw[Bool.eq_iff_iff]
 simp
theorem dec_byt {i j:Array UInt8}:decide (V.byt i=V.byt j)=(i.toList == j.toList):=by
 rw[Bool.eq_iff_iff]
 cases i
 cases j
 simp
section
variable {X:Cx} {a b c:Expr} {ta tb tc:TE} {pos:Pos}
theorem fin_bl {pins:List (Addr×Obj)} {σ:St} {H:Hp} {s:Shared} {Q:VK} {k k':Bool} (I:Inv X pins σ H s) (q:Q (.bl k) H) (e:k=k'):EP X pins σ Q (.bool k') s:=by
 subst e
 exact⟨.bl k,H,I,rfl,q⟩
theorem op_eq:OpR X (compareOp .Eq) rEq:=by
 intro pins s σ H x y v u Q I rx ry h
 obtain⟨hs,q⟩:=h
 cases x with
 | non=>
  cases rx
  cases y with
  | non=>cases ry; exact PySem.EqNone.eq_none_none (fin_bl I q (by simp))
  | bl j=>cases ry; exact PySem.EqNone.eq_none_bool (fin_bl I q (by simp))
  | int j=>obtain⟨t',rfl⟩:=ry; exact PySem.EqNone.eq_none_int (fin_bl I q (by simp))
  | str j=>obtain⟨t',rfl⟩:=ry; exact PySem.EqNone.eq_none_str (fin_bl I q (by simp))
  | _=>exact absurd (show false=true from hs) Bool.false_ne_true
 | bl i=>
  cases rx
  cases y with
  | non=>cases ry; exact PySem.EqNone.eq_bool_none (fin_bl I q (by simp))
  | bl j=>cases ry; exact eq_bool (fin_bl I q dec_bl)
  | str j=>obtain⟨t',rfl⟩:=ry; exact PySem.EqMixed.eq_bool_str (fin_bl I q (by simp))
  | _=>exact absurd (show false=true from hs) Bool.false_ne_true
 | int i=>
  obtain⟨t,rfl⟩:=rx
  cases y with
  | non=>cases ry; exact PySem.EqNone.eq_int_none (fin_bl I q (by simp))
  | int j=>obtain⟨t',rfl⟩:=ry; exact eq_int (fin_bl I q dec_int)
  | str j=>obtain⟨t',rfl⟩:=ry; exact PySem.EqMixed.eq_int_str (fin_bl I q (by simp))
  | _=>exact absurd (show false=true from hs) Bool.false_ne_true
 | str i=>
  obtain⟨t,rfl⟩:=rx
  cases y with
  | non=>cases ry; exact PySem.EqNone.eq_str_none (fin_bl I q (by simp))
  | bl j=>cases ry; exact PySem.EqMixed.eq_str_bool (fin_bl I q (by simp))
  | int j=>obtain⟨t',rfl⟩:=ry; exact PySem.EqMixed.eq_str_int (fin_bl I q (by simp))
  | str j=>obtain⟨t',rfl⟩:=ry; exact eq_str (fin_bl I q dec_str)
  | _=>exact absurd (show false=true from hs) Bool.false_ne_true
 | byt i=>
  obtain⟨t,rfl⟩:=rx
  cases y with
  | byt j=>obtain⟨t',rfl⟩:=ry; exact PySem.W.eq_bytes (fin_bl I q dec_byt)
  | _=>exact absurd (show false=true from hs) Bool.false_ne_true
 | _=>cases y <;> exact absurd (show false=true from hs) Bool.false_ne_true
theorem op_ne:OpR X (compareOp .NotEq) rNe:=by
 intro pins s σ H x y v u Q I rx ry h
 obtain⟨hs,q⟩:=h
 cases x with
 | non=>
  cases rx
  cases y with
  | non=>cases ry; exact PySem.EqNone.ne_none_none (fin_bl I q (by simp))
  | bl j=>cases ry; exact PySem.EqNone.ne_none_bool (fin_bl I q (by simp))
  | int j=>obtain⟨t',rfl⟩:=ry; exact PySem.EqNone.ne_none_int (fin_bl I q (by simp))
  | str j=>obtain⟨t',rfl⟩:=ry; exact PySem.EqNone.ne_none_str (fin_bl I q (by simp))
  | _=>exact absurd (show false=true from hs) Bool.false_ne_true
 | bl i=>
  cases rx
  cases y with
  | non=>cases ry; exact PySem.EqNone.ne_bool_none (fin_bl I q (by simp))
  | bl j=>cases ry; exact ne_bool (fin_bl I q (congrArg not dec_bl))
  | str j=>obtain⟨t',rfl⟩:=ry; exact PySem.EqMixed.ne_bool_str (fin_bl I q (by simp))
  | _=>exact absurd (show false=true from hs) Bool.false_ne_true
 | int i=>
  obtain⟨t,rfl⟩:=rx
  cases y with
  | non=>cases ry; exact PySem.EqNone.ne_int_none (fin_bl I q (by simp))
  | int j=>obtain⟨t',rfl⟩:=ry; exact ne_int (fin_bl I q (congrArg not dec_int))
  | str j=>obtain⟨t',rfl⟩:=ry; exact PySem.EqMixed.ne_int_str (fin_bl I q (by simp))
  | _=>exact absurd (show false=true from hs) Bool.false_ne_true
 | str i=>
  obtain⟨t,rfl⟩:=rx
  cases y with
  | non=>cases ry; exact PySem.EqNone.ne_str_none (fin_bl I q (by simp))
  | bl j=>cases ry; exact PySem.EqMixed.ne_str_bool (fin_bl I q (by simp))
  | int j=>obtain⟨t',rfl⟩:=ry; exact PySem.EqMixed.ne_str_int (fin_bl I q (by simp))
  | str j=>obtain⟨t',rfl⟩:=ry; exact ne_str (fin_bl I q (congrArg not dec_str))
  | _=>exact absurd (show false=true from hs) Bool.false_ne_true
 | byt i=>
  obtain⟨t,rfl⟩:=rx
  cases y with
  | byt j=>obtain⟨t',rfl⟩:=ry; exact PySem.W.ne_bytes (fin_bl I q (congrArg not dec_byt))
  | _=>exact absurd (show false=true from hs) Bool.false_ne_true
 | _=>cases y <;> exact absurd (show false=true from hs) Bool.false_ne_true
theorem op_lt:OpR X (compareOp .Lt) (rI0 fun i j=>.bl (decide (i<j))):=opB0 fun _ _ _ _ _ _ _ q=>lt_int q
theorem op_gt:OpR X (compareOp .Gt) (rI0 fun i j=>.bl (decide (j<i))):=opB0 fun _ _ _ _ _ _ _ q=>gt_int q
theorem op_ge:OpR X (compareOp .GtE) (rI0 fun i j=>.bl (decide (j<=i))):=opB0 fun _ _ _ _ _ _ _ q=>ge_int q
theorem nomark (b:Expr) {op:CmpOp} (h:op≠.In:=by decide) (h2:op≠.NotIn:=by decide):behindInMarks op b=false:=by
 have e1:(op == CmpOp.In)=false:=by cases op <;> first | rfl | exact absurd rfl h
 have e2:(op == CmpOp.NotIn)=false:=by cases op <;> first | rfl | exact absurd rfl h2
 cases b <;> simp[behindInMarks,e1,e2]
theorem pe_cmpR {op:CmpOp} {r:R2} (ho:OpR X (compareOp op) r) (ha:PE X a ta) (hb:PE X b tb) (hm:behindInMarks op b=false):PE X (.Compare a [op] [b] pos) (tOp r ta tb):=by
 intro pins s σ H Q I h
 exact wpAny_Compare1 (binT ha hb I h fun v u s2 x y H2 I2 rx ry q=>ho pins s2 σ H2 x y v u Q I2 rx ry q) hm
def tTest (t:TE):TT:=fun σ H Q=>t σ H fun x H'=>∃ k,x=.bl k/\Q k H'
theorem pt_cmpR {op:CmpOp} {r:R2} (ho:OpR X (compareOp op) r) (ha:PE X a ta) (hb:PE X b tb) (hm:behindInMarks op b=false):PT X (.Compare a [op] [b] pos) (tTest (tOp r ta tb)):=by
 intro pins s σ H Q I h
 refine wpAny_isTrue_Compare1 (thn (ha pins s σ H _ I h) fun v s1 ⟨x,H1,I1,r1,q1⟩=>thn (hb pins s1 σ H1 _ I1 q1) fun u s2 ⟨y,H2,I2,r2,q2⟩=>
  thn (ho pins s2 σ H2 x y v u _ I2 r1 r2 q2) fun c s3 ⟨z,H3,I3,r3,k,e,q3⟩=>?_) hm
 subst e
 cases r3
 exact wpAny_truthy_bool ⟨H3,I3,q3⟩
theorem line63:(sizeLine:Nat)<2 ^ 63:=by rw[sizeLine_eq]; decide
theorem op_add_str:OpR X (binaryOp .Add) (fun x y H Q=>∃ i j,x=.str i/\y=.str j/\i.length+j.length<=sizeLine/\Q (.str (i++j)) H):=by
 intro pins s σ H x y v u Q I rx ry h
 obtain⟨i,j,rfl,rfl,hz,q⟩:=h
 obtain⟨t,rfl⟩:=rx
 obtain⟨t',rfl⟩:=ry
 exact add_str (fun t' tk=>⟨.str (i++j),H,I.tok _,⟨_,rfl⟩,q⟩) hz
theorem vals1 {x:V} {us:List Value} (r:Vals [x] us):∃ u,us=[u]/\RelV x u:=by
 cases r with
 | cons r1 r2=>cases r2; exact⟨_,rfl,r1⟩
theorem vals2 {x y:V} {us:List Value} (r:Vals [x,y] us):∃ u w',us=[u,w']/\RelV x u/\RelV y w':=by
 cases r with
 | cons r1 r2=>
  cases r2 with
  | cons r3 r4=>cases r4; exact⟨_,_,rfl,r1,r3⟩
theorem call_str_int:CallR X (.type "str") (fun xs H Q=>∃ i,xs=[.int i]/\i.natAbs.log2<1920/\Q (.str (toString i)) H):=by
 intro pins s σ H xs us Q I r h
 obtain⟨i,rfl,hz,q⟩:=h
 obtain⟨u,rfl,t,rfl⟩:=vals1 r
 exact PySem.P.str_of_int hz ⟨.str _,H,I.tok _,⟨_,rfl⟩,q⟩
end
end L2
namespace L2
open PySem PySem.Spec PyProof.Rows
structure ObjM (h:Heap) (x dx C:Addr) (mA:Str->Option Value):Prop where
 obj:h.get? x=some (PySem.W.instObj C dx)
 ns:h.Ns1 dx mA
 ne:dx≠x
theorem lookIn_ns {h:Heap} {dx:Addr} {mA:Str->Option Value} (n:h.Ns1 dx mA):∃ od,h.get? dx=some od/\∀ name,PySem.W.lookIn name od=some (mA name):=by
 obtain⟨o,es,ep,ho,hd,hk,_,hm⟩:=n
 refine⟨o,ho,fun name=>?_⟩
 have e:=hm name
 unfold nsFind findBy at e
 rw[<-Array.find?_toList] at e
 unfold PySem.W.lookIn
 rw[hd]
 dsimp only
 split
 ·rename_i y q
  rw[q] at e
  exact congrArg some e
 ·rename_i q
  rw[q] at e
  have a:es.toList.any (·.refKey)=false:=by
   rw[List.any_eq_false]
   intro y hy
   obtain⟨z,t,hkey⟩:=hk y (Array.mem_toList_iff.mp hy)
   simp[DictEntry.refKey,hkey]
  have a':¬ es.toList.any (·.refKey)=true:=by rw[a]; exact Bool.false_ne_true
  rw[if_neg a']
  exact congrArg some e
theorem ObjM.look {h:Heap} {x dx C:Addr} {mA:Str->Option Value} (I:ObjM h x dx C mA):∃ od,PySem.W.InstAt h x (PySem.W.instObj C dx) C (some od)/\∀ name,PySem.W.lookIn name od=some (mA name):=
 let ⟨od,ho,hl⟩:=lookIn_ns I.ns
 ⟨od,⟨I.obj,rfl,rfl,ho⟩,hl⟩
section
variable {prog:Program} {w:World} {A:Around} {E:Value->Shared->Prop} {s:Shared} {K:PySem.W.Frag} {x dx C f:Addr} {mA:Str->Option Value} {name:Str} {v:Value}
theorem get_map {expr:Bool} {Q:Value->Shared->Prop} (X:K.In s.heap) (I:ObjM s.heap x dx C mA) (hg:PySem.W.plainGet K C name=true) (hh:PySem.W.hasDictIn K C=true)
  (ha:PySem.W.findIn K (.ref C) name=some none) (hv:mA name=some v) (hv':PySem.W.handedIn v=true) (h:Q v { s with toks:=s.toks+1 }) :
  wpAny (model prog w) A (getAttr (.ref x) name expr) Q E s:=by
 obtain⟨od,J,hl⟩:=I.look
 exact PySem.W.get_value X J (PySem.W.plainGet_of hg).1 (PySem.W.findObj_own hh ha rfl (by rw[hl,hv])) hv' h
theorem get_meth {pl:Sem Bool} {Q:Value×List Value->Shared->Prop} (X:K.In s.heap) (I:ObjM s.heap x dx C mA) (hg:PySem.W.plainGet K C name=true)
  (hf:PySem.W.findIn K (.ref C) name=some (some (.ref f))) (ht:PySem.W.isFn K (.ref f)=true) (hv:mA name=none) (h:Q (.ref f,[.ref x]) s) :
  wpAny (model prog w) A (getMethod (.ref x) name pl) Q E s:=by
 obtain⟨od,J,hl⟩:=I.look
 exact PySem.W.method_fn X J (PySem.W.plainGet_of hg).1 (PySem.W.plainGet_of hg).2 hf (beq_iff_eq.mp ht) (by show (PySem.W.lookIn name od).map (·.isSome)=some false; rw[hl,hv]; rfl) h
theorem set_map {ns:List Str} {Q:Unit->Shared->Prop} (X:K.In s.heap) (I:ObjM s.heap x dx C mA)
  (hs:PySem.W.findIn K (.ref C) "__setattr__" = some (some (.builtin "object.__setattr__"))) (hp:PySem.W.plainOver K C=true) (ht:PySem.W.takerIn K C name=some none) (hh:PySem.W.hasDictIn K C=true)
  (hw:PySem.Within mA ns) (hsz:ns.length<=sizeLine)
  (h:∀ h',ObjM h' x dx C (fun y=>if y=name then some v else mA y)->Heap.SameBut dx s.heap h'->Q () { s with heap:=h',toks:=s.toks+2 }) :
  wpAny (model prog w) A (setAttr (.ref x) name v) Q E s:=by
 obtain⟨od,J,hl⟩:=I.look
 refine PySem.W.set_plain X J hs (PySem.W.osa_open (s:={ s with toks:=s.toks+1 }) (r:=none) X J hp ht fun b=>?_)
 obtain⟨cd,hc,hd'⟩:=PySem.W.any_some hh
 have hx:s.heap.get? x=some ⟨.ref C,some dx,.plain,#[]⟩:=I.obj
 refine wpAny_bind (wpAny_pure (wpAny_bind (wpAny_bind (wpAny_loadPart hx (wpAny_bind (PySem.W.Looks.here (s:={ s with toks:=s.toks+1 }) (PySem.W.looks_clsIn X hc) ?_))))))
 rw[hd']
 refine wpAny_pure (a:=some dx) (wpAny_bind (wpAny_pure (wpAny_bind ?_)))
 refine wpAny_nsSet1 (s:={ s with toks:=s.toks+1 }) I.ns fun h' hn2 hs2=>?_
 obtain⟨oD,esD,epD,hoD,hdD,hcD⟩:=hn2.count (PySem.Within.cons name v hw)
 refine wpAny_bind (wpAny_lookBehind hoD (by rw[hdD]; exact pastItsLine_dict (Nat.le_trans hcD (by rw[List.length_cons]; omega))) ?_)
 exact wpAny_pure (h _ ⟨(hs2.2 _ (Ne.symm I.ne)).trans I.obj,hn2,I.ne⟩ hs2)
theorem make_map {R:Result->Shared->Prop} {vs:List Value} {kw:List (Str×Value)} (X:K.In s.heap) (hm:PySem.W.makesIn K C=true)
  (hi:PySem.W.findIn K (.ref C) "__init__" = some (some (.ref f))) (hf:PySem.W.typeIn K (.ref f)=some (.type "function"))
  (h:codeAny (model prog w) (A.under (.builtin "type.__call__" ⟨.ref C::vs,kw⟩)) (.call (.ref f) ⟨.ref (s.heap.objs.size+1)::vs,kw⟩) (PySem.W.InitBack (s.heap.objs.size+1) R)
   { s with heap:=(s.heap.push PySem.W.emptyDict).push (PySem.W.instObj C s.heap.objs.size) }) :
  codeAny (model prog w) A (.call (.ref C) ⟨vs,kw⟩) R s:=by
 obtain⟨hh,g,d,t,os⟩:=s
 exact PySem.W.make_core (PySem.W.makes_of X hm) (PySem.W.looks_findIn X hi) (fun self=>PySem.W.bind_fn X self hf) (.inl rfl) h
end
def putF (f:Str) (v:V):List (Str×V)->List (Str×V)
 | []=>[(f,v)]
 | (g,x)::r=>if g=f then (g,v)::r else (g,x)::putF f v r
theorem lookup_putF (f g:Str) (v:V):∀ fs:List (Str×V),(putF f v fs).lookup g=if g=f then some v else fs.lookup g
 | []=>by
  show List.lookup g [(f,v)]=_
  by_cases h:g=f
  ·have hb:(g == f)=true:=beq_iff_eq.mpr h
   simp only[List.lookup,hb,if_pos h]
  ·have hb:(g == f)=false:=beq_eq_false_iff_ne.mpr h
   simp only[List.lookup,hb,if_neg h]
 | (k,x)::r=>by
  have ih:=lookup_putF f g v r
  rw[show putF f v ((k,x)::r)=(if k=f then (k,v)::r else (k,x)::putF f v r) from rfl]
  by_cases hk:k=f
  ·rw[if_pos hk]
   by_cases h:g=k
   ·have hb:(g == k)=true:=beq_iff_eq.mpr h
    simp only[List.lookup,hb,if_pos (h.trans hk)]
   ·have hb:(g == k)=false:=beq_eq_false_iff_ne.mpr h
    simp only[List.lookup,hb,if_neg (fun e:g=f=>h (e.trans hk.symm))]
  ·rw[if_neg hk]
   by_cases h:g=k
   ·have hb:(g == k)=true:=beq_iff_eq.mpr h
    simp only[List.lookup,hb,if_neg (fun e:g=f=>hk (h.symm.trans e))]
   ·have hb:(g == k)=false:=beq_eq_false_iff_ne.mpr h
    simp only[List.lookup,hb]
    exact ih
theorem keys_putF (f:Str) (v:V):∀ fs:List (Str×V),f∈(putF f v fs).map (·.1)/\∀ g,g∈fs.map (·.1)->g∈(putF f v fs).map (·.1)
 | []=>⟨by simp[putF],fun g h=>by simp at h⟩
 | (k,x)::r=>by
  obtain⟨i1,i2⟩:=keys_putF f v r
  rw[show putF f v ((k,x)::r)=(if k=f then (k,v)::r else (k,x)::putF f v r) from rfl]
  by_cases hk:k=f
  ·rw[if_pos hk]
   subst hk
   exact⟨by simp,fun g h=>by simpa using h⟩
  ·rw[if_neg hk]
   refine⟨?_,fun g h=>?_⟩
   ·rw[List.map_cons]
    exact List.mem_cons_of_mem _ i1
   ·rw[List.map_cons] at h ⊢
    rcases List.mem_cons.mp h with e | e
    ·exact List.mem_cons.mpr (.inl e)
    ·exact List.mem_cons_of_mem _ (i2 g e)
theorem length_putF (f:Str) (v:V):∀ fs:List (Str×V),(putF f v fs).length<=fs.length+1
 | []=>by simp[putF]
 | (k,x)::r=>by
  have ih:=length_putF f v r
  rw[show putF f v ((k,x)::r)=(if k=f then (k,v)::r else (k,x)::putF f v r) from rfl]
  by_cases hk:k=f
  ·rw[if_pos hk,List.length_cons,List.length_cons]; omega
  ·rw[if_neg hk,List.length_cons,List.length_cons]; omega
theorem RelO.some_of {v:V} {o:Option Value} (r:RelO (some v) o):∃ u,o=some u/\RelV v u:=by
 cases o with
 | none=>exact (show False from r).elim
 | some u=>exact⟨u,rfl,r⟩
theorem RelO.none_of {o:Option Value} (r:RelO none o):o=none:=by
 cases o with
 | none=>rfl
 | some u=>exact (show False from r).elim
theorem handed_of {v:V} {u:Value} (r:RelV v u):PySem.W.handedIn u=true:=by
 cases v with
 | non=>cases (show u=Value.none from r); rfl
 | bl b=>cases (show u=Value.bool b from r); rfl
 | int i=>obtain⟨t,e⟩:=(show ∃ t,u=Value.int i t from r); cases e; rfl
 | str x=>obtain⟨t,e⟩:=(show ∃ t,u=Value.str x t from r); cases e; rfl
 | byt b=>obtain⟨t,e⟩:=(show ∃ t,u=Value.bytes b t from r); cases e; rfl
 | flt b=>obtain⟨t,e⟩:=(show ∃ t,u=Value.float b t from r); cases e; rfl
 | ref a=>cases (show u=Value.ref a from r); rfl
 | ty n=>cases (show u=Value.type n from r); rfl
section
variable {P:Program} {w:World} {H H':Hp} {h h':Heap} {a C dx:Addr} {fs fs':List (Str×V)}
theorem ins_get (hok:HOk P w H h) (e:H a=some (.ins C dx fs)):∃ mA,ObjM h a dx C mA/\(∀ f,RelO (fs.lookup f) (mA f))/\PySem.Within mA (fs.map (·.1))/\fs.length<=1000/\H dx=some (.own a):=by
 obtain⟨d,z,ne,ob,mA,n,r,q⟩:=(show ObjOk P w H h a (.ins C dx fs) from hok a _ e)
 exact⟨mA,⟨ob,n,ne⟩,r,q,z,d⟩
end
structure Cls (K:PySem.W.Frag) (C:Addr):Prop where
 pg:PySem.W.plainGet K C Str.empty=true
 hd:PySem.W.hasDictIn K C=true
 po:PySem.W.plainOver K C=true
 sa:PySem.W.findIn K (.ref C) "__setattr__" = some (some (.builtin "object.__setattr__"))
theorem Cls.get {K:PySem.W.Frag} {C:Addr} (c:Cls K C) (f:Str):PySem.W.plainGet K C f=true:=c.pg
def NoAttr (K:PySem.W.Frag) (C:Addr) (f:Str):Prop:=PySem.W.findIn K (.ref C) f=some none
theorem NoAttr.taker {K:PySem.W.Frag} {C:Addr} {f:Str} (n:NoAttr K C f):PySem.W.takerIn K C f=some none:=by
 unfold PySem.W.takerIn
 rw[show PySem.W.findIn K (.ref C) f=some none from n]
 rfl
structure Meth (K:PySem.W.Frag) (C:Addr) (m:Str) (f:Addr):Prop where
 at_:PySem.W.findIn K (.ref C) m=some (some (.ref f))
 fn:PySem.W.isFn K (.ref f)=true
 kp:PySem.W.keepIn K (.ref f)=true
section
variable {X:Cx} {pins:List (Addr×Obj)} {σ:St} {H:Hp} {s:Shared} {a C dx:Addr} {fs:List (Str×V)} {f:Str} {v:V} {A:Around} {E:Value->Shared->Prop}
theorem getattr_ok {b:Bool} {Q:Value->Shared->Prop} (I:Inv X pins σ H s) (e:H a=some (.ins C dx fs)) (c:Cls X.K C) (n:NoAttr X.K C f) (l:fs.lookup f=some v)
  (h:∀ u s',Inv X pins σ H s'->RelV v u->Q u s'):wpAny (model X.prog X.w) A (getAttr (.ref a) f b) Q E s:=by
 obtain⟨mA,O,r,_,_,_⟩:=ins_get I.hok e
 obtain⟨u,hu,ru⟩:=RelO.some_of (v:=v) (o:=mA f) (by rw[<-l]; exact r f)
 exact get_map I.kIn O (c.get f) c.hd n hu (handed_of ru) (h u _ (I.tok _) ru)
theorem getmeth_ok {m:Str} {g:Addr} {pl:Sem Bool} {Q:Value×List Value->Shared->Prop} (I:Inv X pins σ H s) (e:H a=some (.ins C dx fs)) (c:Cls X.K C) (k:Meth X.K C m g) (l:fs.lookup m=none)
  (h:Q (.ref g,[.ref a]) s):wpAny (model X.prog X.w) A (getMethod (.ref a) m pl) Q E s:=by
 obtain⟨mA,O,r,_,_,_⟩:=ins_get I.hok e
 have hn:mA m=none:=RelO.none_of (by rw[<-l]; exact r m)
 exact get_meth I.kIn O (c.get m) k.at_ k.fn hn h
theorem setattr_ok {y:V} {u:Value} {Q:Unit->Shared->Prop} (I:Inv X pins σ H s) (e:H a=some (.ins C dx fs)) (c:Cls X.K C) (n:NoAttr X.K C f) (hl:fs.length<1000) (ry:RelV y u)
  (h:∀ s',Inv X pins σ (upd H a (.ins C dx (putF f y fs))) s'->Q () s'):wpAny (model X.prog X.w) A (setAttr (.ref a) f u) Q E s:=by
 obtain⟨mA,O,r,wi,_,ho⟩:=ins_get I.hok e
 have hz:(fs.map (·.1)).length<=sizeLine:=by rw[List.length_map,sizeLine_eq]; omega
 refine set_map I.kIn O c.sa c.po n.taker c.hd wi hz fun h' O' sb=>h _ ?_
 have hd:∃ o,h'.get? dx=some o:=let ⟨o,_,_,e',_⟩:=O'.ns; ⟨o,e'⟩
 refine I.write (x:=a) (e:=dx) (by rw[e]; exact True.intro) (.inr ho) (fun b q hb z=>(sb.2 b hb).trans z) hd ?_
 refine⟨by rw[upd_ne O.ne]; exact ho,?_,O.ne,O'.obj,_,O'.ns,fun g=>?_,fun g hg=>?_⟩
 ·have:=length_putF f y fs; omega
 ·show RelO ((putF f y fs).lookup g) (if g=f then some u else mA g)
  rw[lookup_putF]
  by_cases q:g=f
  ·rw[if_pos q,if_pos q]; exact ry
  ·rw[if_neg q,if_neg q]; exact r g
 ·by_cases q:g=f
  ·rw[q]; exact (keys_putF f y fs).1
  ·refine (keys_putF f y fs).2 g (wi g fun z=>hg ?_)
   show (if g=f then some u else mA g)=none
   rw[if_neg q]; exact z
theorem Inv.made (I:Inv X pins σ H s):Inv X pins σ (upd (upd H s.heap.objs.size (.own (s.heap.objs.size+1))) (s.heap.objs.size+1) (.ins C s.heap.objs.size []))
  { s with heap:=(s.heap.push PySem.W.emptyDict).push (PySem.W.instObj C s.heap.objs.size) }:=by
 have e1:(s.heap.push PySem.W.emptyDict).get? s.heap.objs.size=some PySem.W.emptyDict:=Heap.get?_push_size s.heap rfl
 have e2:((s.heap.push PySem.W.emptyDict).push (PySem.W.instObj C s.heap.objs.size)).get? (s.heap.objs.size+1)=some (PySem.W.instObj C s.heap.objs.size):=by
  have:=Heap.get?_push_size (s.heap.push PySem.W.emptyDict) (o:=PySem.W.instObj C s.heap.objs.size) rfl
  rwa [Heap.size_push] at this
 have e3:(s.heap.push PySem.W.emptyDict).Ns s.heap.objs.size (fun _=>none):=⟨PySem.W.emptyDict,#[],_,e1,rfl,(fun e he=>absurd he (by simp)),fun _=>rfl⟩
 have I1:=I.laid (a:=s.heap.objs.size) (o:=.own (s.heap.objs.size+1)) (h':=s.heap.push PySem.W.emptyDict) (t':=s.toks) (fun b u q=>Heap.get?_push_of_some _ q) (Nat.le_refl _) ⟨_,e1⟩
 refine I1.laid (a:=s.heap.objs.size+1) (o:=.ins C s.heap.objs.size []) (t':=s.toks) (fun b u q=>Heap.get?_push_of_some _ q) (Nat.le_of_eq (Heap.size_push _ _)) ?_
 have ne:s.heap.objs.size≠s.heap.objs.size+1:=Nat.ne_of_lt (Nat.lt_succ_self _)
 refine⟨by rw[upd_ne ne,upd_same],Nat.zero_le _,ne,e2,fun _=>none,(Heap.Ns1.of_empty e3).at fun o q=>Heap.get?_push_of_some _ q,fun _=>True.intro,fun y hy=>absurd rfl hy⟩
theorem attr_of {prog:Program} {w:World} {env:Env} {e:Expr} {f:Str} {pos:Pos} {s:Shared} {Q:Value->Shared->Prop} (hb:attributeBase e f env (eval e env)=eval e env)
  (h:wpAny (model prog w) A (eval e env) (fun o s₁=>wpAny (model prog w) A (getAttr o f true) Q E s₁) E s):wpAny (model prog w) A (eval (.Attribute e f pos) env) Q E s:=
 Attribute_any_ h (by rw[arm_eval_Attribute,hb])
end
def tFld (K:PySem.W.Frag) (ta:TE) (f:Str):TE:=fun σ H Q=>ta σ H fun x H1=>∃ a C dx fs v,x=.ref a/\H1 a=some (.ins C dx fs)/\Cls K C/\NoAttr K C f/\fs.lookup f=some v/\Q v H1
def sFld (K:PySem.W.Frag) (ta tv:TE) (f:Str):TS:=fun D σ H=>tv σ H fun y H1=>ta σ H1 fun x H2=>∃ a C dx fs,x=.ref a/\H2 a=some (.ins C dx fs)/\Cls K C/\NoAttr K C f/\fs.length<1000 /\
 D.nx σ (upd H2 a (.ins C dx (putF f y fs)))
section
variable {X:Cx} {o e value:Expr} {f:Str} {pos pos' tpos:Pos} {ta tv:TE}
theorem pe_fld (he:PE X e ta) (hb:attributeBase e f X.env (eval e X.env)=eval e X.env):PE X (.Attribute e f pos) (tFld X.K ta f):=by
 intro pins s σ H Q I h
 refine attr_of hb (thn (he pins s σ H _ I h) fun u s1 ⟨x,H1,I1,rx,a,C,dx,fs,v,ex,ea,c,n,l,q⟩=>?_)
 subst ex
 obtain rfl:u=Value.ref a:=rx
 exact getattr_ok I1 ea c n l fun u' s2 I2 ru=>⟨v,H1,I2,ru,q⟩
theorem ps_fld (ha:PE X o ta) (hv:PE X value tv) (hs:swapsWith value (some (.Attribute o f pos')) pos.line X.env=pure false):PS X (.Assign [.Attribute o f pos'] value pos) (sFld X.K ta tv f):=by
 intro pins s σ H D I h
 refine plainObj_wpAny_Assign_Attribute (thn (hv pins s σ H _ I h) fun u s1 ⟨y,H1,I1,ry,q⟩=>thn (ha pins s1 σ H1 _ I1 q) fun ov s2 ⟨x,H2,I2,rx,a,C,dx,fs,ex,ea,c,n,l,q2⟩=>?_) hs
 subst ex
 obtain rfl:ov=Value.ref a:=rx
 exact setattr_ok I2 ea c n l ry fun s3 I3=>⟨σ,_,I3,q2⟩
end
section
variable {X:Cx} {pins:List (Addr×Obj)} {σ:St} {H:Hp} {s:Shared} {A:Around} {E:Value->Shared->Prop} {Q:Value->Shared->Prop} {c:Value} {b:Bool}
end
end L2
namespace L2
open PySem PySem.Spec PyProof.Rows
structure Room (k:Nat) (A:Around):Prop where
 hd:A.handled=none
 dp:A.depth+3*k+5<recursionLimit
 un:A.units+16*k+200<cLine
theorem Room.mono {j k:Nat} {A:Around} (r:Room k A) (h:j<=k):Room j A:=⟨r.hd,by have:=r.dp; omega,by have:=r.un; omega⟩
theorem Room.deeper {k:Nat} {A:Around} (r:Room (k+1) A) (env:Env):Room k (A.deeper env):=
 ⟨r.hd,by have:=r.dp; show A.depth+1+3*k+5<_; omega,by have:=r.un; show A.units+3+16*k+200<_; omega⟩
theorem make_depth {A:Around} {C:Addr} {us:List Value} {kw:List (Str×Value)}:(A.under (.builtin "type.__call__" ⟨.ref C::us,kw⟩)).depth=A.depth+1:=by
 first | rfl | simp[Around.under,Code.weight,Code.isCreation,Code.isGuard,Code.isCaller,Code.frames,Code.isFrame,guardIds]
theorem make_units {A:Around} {C:Addr} {us:List Value} {kw:List (Str×Value)}:(A.under (.builtin "type.__call__" ⟨.ref C::us,kw⟩)).units=A.units+1:=by
 first | rfl | simp[Around.under,Code.cUnits,Code.frames,Code.isFrame]
theorem Room.make {k:Nat} {A:Around} (r:Room (k+1) A) (C:Addr) (us:List Value) (kw:List (Str×Value)):Room k (A.under (.builtin "type.__call__" ⟨.ref C::us,kw⟩)):=
 ⟨r.hd,by have:=r.dp; rw[make_depth]; omega,by have:=r.un; rw[make_units]; omega⟩
theorem Room.depth {k:Nat} {A:Around} (r:Room k A):A.depth<recursionLimit:=by have:=r.dp; omega
theorem Room.units {k:Nat} {A:Around} (r:Room k A):A.units+64<cLine:=by have:=r.un; omega
def tNil:TA:=fun _ H Q=>Q [] H
def tCons (ta:TE) (tr:TA):TA:=fun σ H Q=>ta σ H fun x H1=>tr σ H1 fun xs H2=>Q (x::xs) H2
section
variable {X:Cx} {e:Expr} {es:List Expr} {te:TE} {t:TA} {pos:Pos}
theorem pa_nil:PA X [] tNil:=fun _ _ _ _ H Q I h=>Calls.spliced_nil ⟨[],H,I,.nil,h⟩
theorem pa_cons (ha:PE X e te) (hr:PA X es t) (hs:starEach (e::es) X.env=(false,eval e X.env)::starEach es X.env:=by rfl):PA X (e::es) (tCons te t):=by
 intro pos pins s σ H Q I h
 rw[hs]
 show wpAny _ _ (spliced ((false,eval e X.env)::backTo pos (starEach es X.env))) _ _ s
 refine Calls.spliced_cons (thn (ha pins s σ H _ I h) fun u s1 ⟨x,H1,I1,r1,q1⟩=>?_)
 exact thn (hr pos pins s1 σ H1 _ I1 q1) fun us s2 ⟨xs,H2,I2,r2,q2⟩=>⟨x::xs,H2,I2,.cons r1 r2,q2⟩
def tTup (t:TA):TE:=fun σ H Q=>t σ H fun xs H1=>xs.length<=sizeLine/\∀ p,H1 p=none->Q (.ref p) (upd H1 p (.tup xs))
def tLst (t:TA):TE:=fun σ H Q=>t σ H fun xs H1=>xs.length<=sizeLine/\∀ p,H1 p=none->Q (.ref p) (upd H1 p (.lst xs))
theorem pe_tup {x1} (h:PA X es t):PE X (.Tuple es x1 pos) (tTup t):=by
 intro pins s σ H Q I hq
 refine wpAny_Tuple_spliced (thn (h pos pins s σ H _ I hq) fun us s1 ⟨xs,H1,I1,r,z,q⟩=>⟨by rw[<-r.length]; exact z,?_⟩)
 have hf:H1 s1.heap.objs.size=none:=I1.hok.fresh (Nat.le_refl _)
 refine⟨.ref s1.heap.objs.size,upd H1 s1.heap.objs.size (.tup xs),I1.laid (t':=s1.toks) (fun b u e=>Heap.get?_push_of_some _ e) (Nat.le_refl _) ?_,rfl,q _ hf⟩
 exact⟨z,us,r,⟨_,Heap.get?_push_size _ rfl,rfl,_,rfl⟩⟩
theorem pe_lst (h:PA X es t):PE X (.List es pos) (tLst t):=by
 intro pins s σ H Q I hq
 refine wpAny_List_spliced (thn (h pos pins s σ H _ I hq) fun us s1 ⟨xs,H1,I1,r,z,q⟩=>⟨by rw[<-r.length]; exact z,?_⟩)
 have hf:H1 s1.heap.objs.size=none:=I1.hok.fresh (Nat.le_refl _)
 refine⟨.ref s1.heap.objs.size,upd H1 s1.heap.objs.size (.lst xs),I1.laid (t':=s1.toks) (fun b u e=>Heap.get?_push_of_some _ e) (Nat.le_refl _) ?_,rfl,q _ hf⟩
 exact⟨z,us,0,r,Heap.get?_push_size _ rfl⟩
end
abbrev Sp:=List V->Hp->VK->XK->Prop
abbrev CXT:=List Env->Hp->Shared->XK->Value->Shared->Prop
structure Env0 (P:Program) (w:World) (K:PySem.W.Frag) (mg:Str->Option Value) (base:Heap) (A:Around) (outer:List Env) (s:Shared) (H:Hp):Prop where
 frames:A.frames=some outer
 mod:Mod K mg base
 bs:∀ b o,base.get? b=some o->s.heap.get? b=some o/\H b=none
 bsz:base.objs.size<=s.heap.objs.size
 funs:s.heap.FunFrames base outer
 frf:∀ b∈frs outer,H b=none
 hok:HOk P w H s.heap
 bare:AllBare s.gens
def CE (outer:List Env) (P:Program) (w:World) (H:Hp) (s:Shared) (Q:VK) (u:Value) (s':Shared):Prop:=
 ∃ v H',s'.os=s.os/\AllBare s'.gens/\Un (frs outer) [] H H' s.heap s'.heap/\HOk P w H' s'.heap/\RelV v u/\Q v H'
def CR (CX:CXT) (outer:List Env) (P:Program) (w:World) (H:Hp) (s:Shared) (Q:VK) (E:XK) (r:Result) (s':Shared):Prop:=
 match r with
 | .ok (.ret u)=>CE outer P w H s Q u s'
 | .ok _=>False
 | .error e=>CX outer H s E e s'
structure FnOk (P:Program) (w:World) (K:PySem.W.Frag) (mg:Str->Option Value) (base:Heap) (CX:CXT) (k:Nat) (f:Addr) (fd:FuncData) (ps:List Str) (sp:Sp):Prop where
 len:∀ vs H Q E,sp vs H Q E->vs.length=ps.length
 run:∀ (A:Around) (outer:List Env) (s:Shared) (H:Hp) (args:Args) (us:List Value) (vs:List V) (Q:VK) (E:XK),Room k A->Env0 P w K mg base A outer s H->BindsTo s fd args (ps.zip us)->Vals vs us->sp vs H Q E ->
  codeAny (model P w) A (.call (.ref f) args) (CR CX outer P w H s Q E) s
theorem Env0.make {P:Program} {w:World} {K:PySem.W.Frag} {mg:Str->Option Value} {base:Heap} {A:Around} {outer:List Env} {s:Shared} {H:Hp} (e:Env0 P w K mg base A outer s H) (C:Addr) (us:List Value) (kw:List (Str×Value)) :
  Env0 P w K mg base (A.under (.builtin "type.__call__" ⟨.ref C::us,kw⟩)) outer s H:=⟨by first | exact e.frames | (simpa [Around.under,Code.envs,Code.isFrame,pushEnvs] using e.frames),e.mod,e.bs,e.bsz,e.funs,e.frf,e.hok,e.bare⟩
section
variable {X:Cx} {pins:List (Addr×Obj)} {σ:St} {H:Hp} {s s':Shared}
theorem Inv.env0 (I:Inv X pins σ H s):Env0 X.prog X.w X.K X.mg X.base X.A X.stack s H:=
 ⟨I.ok.frames,I.ok.mod,I.bs,Nat.le_trans I.ok.bsz I.sz,I.stack,I.stkFree,I.hok,I.bare⟩
theorem Inv.after {Q:VK} {u:Value} (I:Inv X pins σ H s) (h:CE X.stack X.prog X.w H s Q u s'):EP X pins σ Q u s':=by
 obtain⟨v,H',os,bare,un,hok,r,q⟩:=h
 obtain⟨hh,g,d,t,os'⟩:=s'
 obtain rfl:os'=s.os:=os
 exact⟨v,H',I.call (h':=hh) (g':=g) (d':=d) (t':=t) (ch:=[]) un hok bare (fun b z=>absurd z (by simp)),r,q⟩
end
def tCall (sp:Sp) (dvs:List V) (E:XK) (t:TA):TE:=fun σ H Q=>t σ H fun vs H1=>sp (vs++dvs) H1 Q E
def tMeth (C:Addr) (m:Str) (sp:Sp) (dvs:List V) (E:XK) (ta:TE) (t:TA):TE:=fun σ H Q=>ta σ H fun x H1=>∃ a dx fs,x=.ref a/\H1 a=some (.ins C dx fs)/\fs.lookup m=none /\
 t σ H1 fun vs H2=>sp (x::(vs++dvs)) H2 Q E
def tMake (C:Addr) (sp:Sp) (dvs:List V) (E:XK) (t:TA):TE:=fun σ H Q=>t σ H fun vs H1=>∀ x dx,H1 x=none->H1 dx=none->dx≠x ->
 sp (.ref x::(vs++dvs)) (upd (upd H1 dx (.own x)) x (.ins C dx [])) (fun v H2=>v=.non/\Q (.ref x) H2) E
def Binds (K:PySem.W.Frag) (fd:FuncData) (ps:List Str) (ds:List Value):Prop:=
 ∀ (s:Shared) (us:List Value),K.In s.heap->(us++ds).length=ps.length->BindsTo s fd ⟨us,[]⟩ (ps.zip (us++ds))
theorem Binds.all {K:PySem.W.Frag} {fd:FuncData} {ps:List Str} (h:∀ us:List Value,us.length=ps.length->bindArgs fd ⟨us,[]⟩=pure (ps.zip us)):Binds K fd ps []:=fun s us _ hl=>by
 rw[List.append_nil] at hl ⊢
 exact .of_eq (h us hl)
def Passes (CX:CXT) (X:Cx) (E:XK):Prop:=∀ (pins:List (Addr×Obj)) (σ:St) (H:Hp) (s:Shared) (e:Value) (s':Shared),Inv X pins σ H s->CX X.stack H s E e s'->X.xe e s'
section
variable {X:Cx} {CX:CXT} {k:Nat} {f C:Addr} {fd:FuncData} {ps:List Str} {sp:Sp} {dvs:List V} {ds:List Value} {E:XK} {x m:Str} {p pos apos:Pos} {e o:Expr} {es:List Expr} {ta:TE} {t:TA}
theorem run_fn {pins:List (Addr×Obj)} {σ:St} {H:Hp} {s:Shared} {Q:VK} {us:List Value} {vs:List V} (F:FnOk X.prog X.w X.K X.mg X.base CX k f fd ps sp) (hr:Room k X.A) (hb:Binds X.K fd ps ds) (hd:Vals dvs ds) (hx:Passes CX X E)
  (I:Inv X pins σ H s) (r:Vals vs us) (h:sp (vs++dvs) H Q E):wpAny (model X.prog X.w) X.A (call (.ref f) us) (EP X pins σ Q) X.xe s:=by
 have r2:Vals (vs++dvs) (us++ds):=r.append hd
 have hl:(us++ds).length=ps.length:=by rw[<-r2.length]; exact F.len _ _ _ _ h
 refine wpAny_call (codeAny_mono (F.run X.A X.stack s H ⟨us,[]⟩ (us++ds) (vs++dvs) Q E hr I.env0 (hb s us I.kIn hl) r2 h) fun r s' hq=>?_)
 cases r with
 | error e=>exact hx pins σ H s e s' I hq
 | ok fl=>
  cases fl with
  | ret u=>exact I.after hq
  | next=>exact False.elim hq
  | brk=>exact False.elim hq
  | cont=>exact False.elim hq
theorem pe_call (F:FnOk X.prog X.w X.K X.mg X.base CX k f fd ps sp) (hr:Room k X.A) (hg:Gl X x) (hm:X.mg x=some (.ref f)) (hk:PySem.W.keepIn X.K (.ref f)=true) (hb:Binds X.K fd ps ds) (hd:Vals dvs ds) (hx:Passes CX X E)
  (ha:PA X (e::es) t) (hdb:(x == ("__debug__" : Str))=false:=by decide) (he:starEach (e::es) X.env=(false,eval e X.env)::starEach es X.env:=by rfl) (hpl:(backTo pos (starEach es X.env)).any (·.1)=false:=by rfl) :
  PE X (.Call (.Name x p) (e::es) [] pos) (tCall sp dvs E t):=by
 intro pins s σ H Q I h
 refine wpAny_Call_Name_kw (ld_glob I hg hm ?_ hdb)
 refine PySem.W.callWith_K (h₀:=X.base) I.ok.mod.kin hk (thn (ha pos pins s σ H _ I h) fun us s1 ⟨vs,H1,I1,r,q⟩=>⟨I1.kIn,?_⟩) he hpl
 exact run_fn F hr hb hd hx I1 r q
theorem pe_meth {pl:Sem Bool} (he:PE X o ta) (c:Cls X.K C) (hm:Meth X.K C m f) (F:FnOk X.prog X.w X.K X.mg X.base CX k f fd ps sp) (hr:Room k X.A) (hb:Binds X.K fd ps ds) (hd:Vals dvs ds) (hx:Passes CX X E) (ha:PA X (e::es) t)
  (hst:starEach (e::es) X.env=(false,eval e X.env)::starEach es X.env:=by rfl) (hpl:(backTo pos (starEach es X.env)).any (·.1)=false:=by rfl)
  (ht:eval (.Call (.Attribute o m apos) (e::es) [] pos) X.env=(do
   let ov ← eval o X.env
   standAt apos.atName
   let (f,first) ← holding [ov] (getMethod ov m pl)
   callWith pos f first (backTo pos (starEach (e::es) X.env)) (backToKw pos (keywordEach [] X.env))):=by rfl) :
  PE X (.Call (.Attribute o m apos) (e::es) [] pos) (tMeth C m sp dvs E ta t):=by
 intro pins s σ H Q I h
 refine PySem.W.methodCall_KW (pl:=pl) (thn (he pins s σ H _ I h) fun u s1 ⟨x,H1,I1,rx,a,dx,fs,ex,ea,l,q⟩=>?_) ht
 subst ex
 obtain rfl:u=Value.ref a:=rx
 refine getmeth_ok I1 ea c hm l ?_
 refine PySem.W.callWith_K (first:=[.ref a]) (h₀:=X.base) I.ok.mod.kin hm.kp (thn (ha pos pins s1 σ H1 _ I1 q) fun us s2 ⟨vs,H2,I2,r,q2⟩=>⟨I2.kIn,?_⟩) hst hpl
 exact run_fn (us:=.ref a::us) (vs:=.ref a::vs) F hr hb hd hx I2 (.cons rfl r) q2
theorem pe_meth0 {pl:Sem Bool} (he:PE X o ta) (c:Cls X.K C) (hm:Meth X.K C m f) (F:FnOk X.prog X.w X.K X.mg X.base CX k f fd ps sp) (hr:Room k X.A) (hb:Binds X.K fd ps ds) (hd:Vals dvs ds) (hx:Passes CX X E)
  (ht:eval (.Call (.Attribute o m apos) [] [] pos) X.env=(do
   let ov ← eval o X.env
   standAt apos.atName
   let (f,first) ← holding [ov] (getMethod ov m pl)
   callWith pos f first (backTo pos (starEach [] X.env)) (backToKw pos (keywordEach [] X.env))):=by rfl) :
  PE X (.Call (.Attribute o m apos) [] [] pos) (tMeth C m sp dvs E ta tNil):=by
 intro pins s σ H Q I h
 refine PySem.W.methodCall_KW (pl:=pl) (thn (he pins s σ H _ I h) fun u s1 ⟨x,H1,I1,rx,a,dx,fs,ex,ea,l,q⟩=>?_) ht
 subst ex
 obtain rfl:u=Value.ref a:=rx
 refine getmeth_ok I1 ea c hm l ?_
 exact PySem.W.callWith_K0 (first:=[.ref a]) I1.kIn hm.kp (run_fn (us:=[.ref a]) (vs:=[.ref a]) F hr hb hd hx I1 (.cons rfl .nil) q)
structure Mk (K:PySem.W.Frag) (C f:Addr):Prop where
 makes:PySem.W.makesIn K C=true
 init:PySem.W.findIn K (.ref C) "__init__" = some (some (.ref f))
 fn:PySem.W.isFn K (.ref f)=true
 kp:PySem.W.keepIn K (.ref C)=true
theorem run_make {pins:List (Addr×Obj)} {σ:St} {H:Hp} {s:Shared} {Q:VK} {us:List Value} {vs:List V} (M:Mk X.K C f) (F:FnOk X.prog X.w X.K X.mg X.base CX k f fd ps sp) (hr:Room (k+1) X.A) (hb:Binds X.K fd ps ds) (hd:Vals dvs ds)
  (hx:Passes CX X E) (I:Inv X pins σ H s) (r:Vals vs us)
  (h:∀ x dx,H x=none->H dx=none->dx≠x->sp (.ref x::(vs++dvs)) (upd (upd H dx (.own x)) x (.ins C dx [])) (fun v H2=>v=.non/\Q (.ref x) H2) E) :
  wpAny (model X.prog X.w) X.A (call (.ref C) us) (EP X pins σ Q) X.xe s:=by
 have hq:=h (s.heap.objs.size+1) s.heap.objs.size (I.hok.fresh (Nat.le_succ _)) (I.hok.fresh (Nat.le_refl _)) (Nat.ne_of_lt (Nat.lt_succ_self _))
 have I2:=Inv.made (C:=C) I
 have r2:Vals (V.ref (s.heap.objs.size+1)::(vs++dvs)) (Value.ref (s.heap.objs.size+1)::(us++ds)):=.cons rfl (r.append hd)
 have hl:(Value.ref (s.heap.objs.size+1)::us++ds).length=ps.length:=by
  have e:=r2.length
  rw[F.len _ _ _ _ hq] at e
  exact e.symm
 refine wpAny_call (make_map (f:=f) I.kIn M.makes M.init (beq_iff_eq.mp M.fn) (codeAny_mono (F.run _ X.stack _ _ ⟨Value.ref (s.heap.objs.size+1)::us,[]⟩ (Value.ref (s.heap.objs.size+1)::(us++ds)) _ _ E (hr.make C us [])
  (I2.env0.make C us []) (hb _ (Value.ref (s.heap.objs.size+1)::us) I2.kIn hl) r2 hq) fun r s' hq'=>?_))
 cases r with
 | error e=>exact hx pins σ _ _ e s' I2 hq'
 | ok fl=>
  cases fl with
  | ret u=>
   obtain⟨v,H',I3,rv,ev,q3⟩:=I2.after hq'
   subst ev
   exact⟨rv,⟨V.ref (s.heap.objs.size+1),H',I3,rfl,q3⟩⟩
  | next=>exact False.elim hq'
  | brk=>exact False.elim hq'
  | cont=>exact False.elim hq'
theorem pe_make (M:Mk X.K C f) (F:FnOk X.prog X.w X.K X.mg X.base CX k f fd ps sp) (hr:Room (k+1) X.A) (hg:Gl X x) (hm:X.mg x=some (.ref C)) (hb:Binds X.K fd ps ds) (hd:Vals dvs ds) (hx:Passes CX X E)
  (ha:PA X (e::es) t) (hdb:(x == ("__debug__" : Str))=false:=by decide) (he:starEach (e::es) X.env=(false,eval e X.env)::starEach es X.env:=by rfl) (hpl:(backTo pos (starEach es X.env)).any (·.1)=false:=by rfl) :
  PE X (.Call (.Name x p) (e::es) [] pos) (tMake C sp dvs E t):=by
 intro pins s σ H Q I h
 refine wpAny_Call_Name_kw (ld_glob I hg hm ?_ hdb)
 refine PySem.W.callWith_K (h₀:=X.base) I.ok.mod.kin M.kp (thn (ha pos pins s σ H _ I h) fun us s1 ⟨vs,H1,I1,r,q⟩=>⟨I1.kIn,?_⟩) he hpl
 exact run_make M F hr hb hd hx I1 r q
end
section
variable {X:Cx} {CX:CXT} {k:Nat} {f C:Addr} {fd:FuncData} {ps ks:List Str} {sp:Sp} {E:XK} {x m:Str} {p pos apos kpos:Pos} {e o:Expr} {es:List Expr} {kws:List Keyword} {te ta:TE} {t tk:TA} {nm:Option Str}
variable {g:List Value->List Value->List Value} {gV:List V->List V->List V}
end
structure FnScope (N P:List Str) (sc:Scope):Prop where
 kind:sc.kind=.function
 co:sc.isCoroutine=false
 gen:sc.isGenerator=false
 nd:N.Nodup
 pre:N.take P.length=P
 par:∀ x∈P,sc.names.lookup x=some .local\/sc.names.lookup x=some .cell
 nofree:∀ y∈sc.names,y.2≠.free
theorem bindL_out {kindOf:Str->Option NameKind} {x:Str}:∀ {binds:List (Str×Value)} {m:Str->Option Value},(∀ v,(x,v)∉binds)->bindL kindOf binds m x=m x
 | [],_,_=>rfl
 | (n,v)::r,m,h=>by
  unfold bindL
  rw[bindL_out fun w hw=>h w (List.mem_cons_of_mem _ hw)]
  split
  ·have:x≠n:=by rintro rfl; exact h v List.mem_cons_self
   simp[this]
  ·rfl
theorem bindC_out {kindOf:Str->Option NameKind} {x:Str}:∀ {binds:List (Str×Value)} {m:Str->Option Value},(∀ v,(x,v)∉binds)->bindC kindOf binds m x=m x
 | [],_,_=>rfl
 | (n,v)::r,m,h=>by
  unfold bindC
  rw[bindC_out fun w hw=>h w (List.mem_cons_of_mem _ hw)]
  split
  ·rfl
  ·have:x≠n:=by rintro rfl; exact h v List.mem_cons_self
   simp[this]
theorem bindL_get {kindOf:Str->Option NameKind} {x:Str} {v:Value}:∀ {P:List Str} {vs:List Value} {i:Nat} {m:Str->Option Value},P.Nodup->P[i]?=some x->vs[i]?=some v->kindOf x=some .local ->
  bindL kindOf (P.zip vs) m x=some v
 | [],_,_,_,_,h,_,_=>by simp at h
 | _::_,[],_,_,_,_,h,_=>by simp at h
 | p::P,w::vs,0,m,nd,h1,h2,hk=>by
  simp at h1 h2; subst h1; subst h2
  show bindL kindOf ((p,w)::P.zip vs) m p=_
  unfold bindL
  rw[bindL_out fun v hv=>(List.nodup_cons.mp nd).1 (List.of_mem_zip hv).1,if_pos hk]
  simp
 | p::P,w::vs,i+1,m,nd,h1,h2,hk=>by
  show bindL kindOf ((p,w)::P.zip vs) m x=_
  unfold bindL
  exact bindL_get (i:=i) (List.nodup_cons.mp nd).2 (by simpa using h1) (by simpa using h2) hk
theorem bindC_get {kindOf:Str->Option NameKind} {x:Str} {v:Value}:∀ {P:List Str} {vs:List Value} {i:Nat} {m:Str->Option Value},P.Nodup->P[i]?=some x->vs[i]?=some v->kindOf x≠some .local ->
  bindC kindOf (P.zip vs) m x=some v
 | [],_,_,_,_,h,_,_=>by simp at h
 | _::_,[],_,_,_,_,h,_=>by simp at h
 | p::P,w::vs,0,m,nd,h1,h2,hk=>by
  simp at h1 h2; subst h1; subst h2
  show bindC kindOf ((p,w)::P.zip vs) m p=_
  unfold bindC
  rw[bindC_out fun v hv=>(List.nodup_cons.mp nd).1 (List.of_mem_zip hv).1,if_neg hk]
  simp
 | p::P,w::vs,i+1,m,nd,h1,h2,hk=>by
  show bindC kindOf ((p,w)::P.zip vs) m x=_
  unfold bindC
  exact bindC_get (i:=i) (List.nodup_cons.mp nd).2 (by simpa using h1) (by simpa using h2) hk
def start (N:List Str) (vs:List V):St:=vs.map some++List.replicate (N.length-vs.length) none
def cxOf (CX:CXT) (P:Program) (w:World) (K:PySem.W.Frag) (mg:Str->Option Value) (base:Heap) (N:List Str) (qual:Str) (scope:Scope) (f:Addr) (cd:Value) (A:Around) (outer:List Env) (s:Shared) (H:Hp) (E:XK):Cx where
 prog:=P
 w:=w
 K:=K
 mg:=mg
 base:=base
 A:=A.deeper (envOfC qual scope s.heap.objs.size f cd)
 N:=N
 s₀:=s
 H₀:=H
 env:=envOfC qual scope s.heap.objs.size f cd
 outer:=outer
 stack:=envOfC qual scope s.heap.objs.size f cd::outer
 ex:=[]
 calm:=true
 fn:=fun _=>true
 pn:=[]
 xe:=fun e s'=>wpAny (model P w) (A.deeper (envOfC qual scope s.heap.objs.size f cd)) (leaving (envOfC qual scope s.heap.objs.size f cd) e) (fun _ s''=>CX outer H s E e s'') (fun e' s''=>CX outer H s E e' s'') s'
theorem cell_has {sc:Scope} {n:Nat} {x:Str} (h:sc.names.lookup x=some .cell):∃ c,(cellsFrom n sc.names []).lookup x=some c:=by
 have q:=PySem.W.cellsFrom_some sc.names n [] (.inl h)
 exact Option.isSome_iff_exists.mp q
theorem inv_start {CX:CXT} {P:Program} {w:World} {K:PySem.W.Frag} {mg:Str->Option Value} {base:Heap} {N ps:List Str} {qual:Str} {scope:Scope} {f:Addr} {cd:Value} {A:Around} {outer:List Env} {s s1:Shared} {H:Hp} {E:XK} {us:List Value} {vs:List V}
  (S:FnScope N ps scope) (hd:A.handled=none) (e0:Env0 P w K mg base A outer s H) (hl:vs.length=ps.length) (r:Vals vs us)
  (x:InCallC s s.heap.objs.size (bindL (envOfC qual scope s.heap.objs.size f cd).kindOf (ps.zip us) fun _=>none) (cellsFrom (s.heap.objs.size+1) scope.names []) (bindC (envOfC qual scope s.heap.objs.size f cd).kindOf (ps.zip us) fun _=>none) s1) :
  Inv (cxOf CX P w K mg base N qual scope f cd A outer s H E) [] (start N vs) H s1:=by
 have hpl:ps.length<=N.length:=by have:=congrArg List.length S.pre; rw[List.length_take] at this; omega
 obtain⟨h1,tk,rfl,hk⟩:=x.done
 have noA:∀ b:Addr,b∉(cxOf CX P w K mg base N qual scope f cd A outer s H E).ex:=fun b z=>absurd (show b∈([]:List Addr) from z) (by simp)
 refine⟨⟨e0.mod,S.kind,rfl,rfl,Nat.le_refl _,fun y z c h1 h2=>?_,fun y hy=>?_,fun y c _ h=>?_,fun _=>hd,Around.frames_deeper e0.frames,.inr ⟨rfl,rfl⟩,fun b z=>absurd z (noA b),e0.bs,e0.bsz,fun b _ _=>noA b,fun b z=>absurd z (noA b),e0.funs,e0.frf⟩,
  rfl,e0.bare,Un.kept hk,⟨_,x.toInCall.ns,fun i y v h1 h2 h3=>?_⟩,fun y c h=>⟨_,x.cell y c h⟩,e0.hok.fresh (Nat.le_refl _),fun y c h=>?_,fun p hp=>absurd (show p∈([]:List (Addr×Obj)) from hp) (by simp),e0.hok.kept hk,?_⟩
 ·exact name_of_addr x.apart (PySem.mem_of_lookup h1) (PySem.mem_of_lookup h2)
 ·have hy:scope.names.lookup y=some .cell\/scope.names.lookup y=some .free:=hy
  rcases hy with hy | hy
  ·exact cell_has hy
  ·exact absurd rfl (S.nofree _ (PySem.mem_of_lookup hy))
 ·exact Nat.le_of_lt (x.above y c (PySem.mem_of_lookup h))
 ·have hi:i<vs.length:=by
   unfold start at h2
   by_cases hi:i<vs.length
   ·exact hi
   ·rw[List.getElem?_append_right (by simpa using hi)] at h2
    rw[List.getElem?_replicate] at h2
    split at h2 <;> cases h2
  have ha:vs[i]?=some v:=by
   unfold start at h2
   rw[List.getElem?_append_left (by simpa using hi),List.getElem?_map] at h2
   cases e:vs[i]? with
   | none=>rw[e] at h2; cases h2
   | some a=>rw[e] at h2; cases h2; rfl
  obtain⟨u,hu,rv⟩:=r.get ha
  have hp:ps[i]?=some y:=by
   rw[<-S.pre,List.getElem?_take_of_lt (by omega)]; exact h1
  have ndP:ps.Nodup:=by rw[<-S.pre]; exact S.nd.sublist (List.take_sublist _ _)
  refine⟨u,rv,?_⟩
  rcases S.par y (List.mem_of_getElem? hp) with k | k
  ·exact .inl ⟨k,bindL_get ndP hp hu k⟩
  ·obtain⟨c,e⟩:=cell_has (n:=s.heap.objs.size+1) k
   refine .inr ⟨.inl k,c,e,?_⟩
   have q:=x.cell y c e
   rw[bindC_get ndP hp hu (by show scope.names.lookup y≠_; rw[k]; decide)] at q
   exact q
 ·exact e0.hok.fresh (Nat.le_of_lt (x.above y c (PySem.mem_of_lookup h)))
 ·unfold start
  show _=N.length
  rw[List.length_append,List.length_map,List.length_replicate]
  omega
theorem fn_of {CX:CXT} {P:Program} {w:World} {K:PySem.W.Frag} {mg:Str->Option Value} {base:Heap} {k:Nat} {f:Addr} {name qual:Str} {params:Arguments} {body:List Stmt} {scope:Scope} {dV kV doc pm cdv ct oc:Value} {an od:Option Addr}
  {osl:Array (Option Value)} {N ps:List Str} {sp:Sp} (lk:K.lookup f=some ⟨oc,od,.func (PySem.W.fnOf name qual params body scope dV kV doc pm an cdv ct),osl⟩) (hcd:PySem.W.codeIn K cdv qual=true) (S:FnScope N ps scope)
  (len:∀ vs H Q E,sp vs H Q E->vs.length=ps.length)
  (hbody:∀ (A:Around) (outer:List Env) (s:Shared) (H:Hp) (vs:List V) (Q:VK) (E:XK),Room k (A.deeper (envOfC qual scope s.heap.objs.size f cdv))->sp vs H Q E ->
   ∃ t,PSs (cxOf CX P w K mg base N qual scope f cdv A outer s H E) body t/\t { nx:=fun _ H'=>Q .non H',rt:=Q } (start N vs) H) :
  FnOk P w K mg base CX (k+1) f (PySem.W.fnOf name qual params body scope dV kV doc pm an cdv ct) ps sp:=by
 refine⟨len,fun A outer s H args us vs Q E hr e0 hb r hsp=>?_⟩
 have hl:=len _ _ _ _ hsp
 have KX:K.In s.heap:=e0.mod.kin.keeps fun b o e=>(e0.bs b o e).1
 have lim:s.heap.NoLimit:=e0.mod.nolimit.keeps fun b o e=>(e0.bs b o e).1
 have hkind:∀ y∈ps.zip us,scope.names.lookup y.1=some .local\/(scope.names.lookup y.1=some .cell/\((cellsFrom (s.heap.objs.size+1) scope.names []).lookup y.1).isSome=true):=fun⟨n,v⟩ hy=>by
  rcases S.par n (List.of_mem_zip hy).1 with q | q
  ·exact .inl q
  ·exact .inr ⟨q,PySem.W.cellsFrom_some _ _ _ (.inl q)⟩
 refine codeAny_call_function hr.depth (KX _ _ lk) rfl S.co S.gen rfl (PySem.W.codeRec_of KX hcd) (hb _ _ _ _ ?_)
 refine wpAny_newFunctionEnv_cells S.kind hkind fun env he s1 x=>?_
 subst he
 refine⟨lim.keeps x.toInCall.keep,codeAny_func ?_⟩
 obtain⟨t,ht,hq⟩:=hbody A outer s H vs Q E (hr.deeper _) hsp
 have I:Inv (cxOf CX P w K mg base N qual scope f cdv A outer s H E) [] (start N vs) H s1:=inv_start S hr.hd e0 hl r x
 refine wpAny_mono (ht [] s1 (start N vs) H _ I hq) (fun fl s' hs=>?_) fun e s' hs=>hs
 have fin:∀ {σ':St} {H':Hp} {v:V} {u:Value},Inv (cxOf CX P w K mg base N qual scope f cdv A outer s H E) [] σ' H' s'->RelV v u->Q v H'->CE outer P w H s Q u s':=
  fun {σ' H' v u} J rv q=>⟨v,H',J.os,J.bare,J.base,J.hok,rv,q⟩
 cases fl with
 | ret u=>
  obtain⟨v,σ',H',J,rv,q⟩:=hs
  exact fin J rv q
 | next=>
  obtain⟨σ',H',J,q⟩:=hs
  exact fin (v:=V.non) (u:=Value.none) J rfl q
 | brk=>
  obtain⟨_,_,_,q⟩:=hs
  exact False.elim q
 | cont=>
  obtain⟨_,_,_,q⟩:=hs
  exact False.elim q
end L2
namespace L2
open PySem PySem.Spec PyProof.Rows
section
variable {X:Cx} {x:Str} {p pos:Pos} {e:Expr} {es:List Expr} {t:TA} {id T:String} {r:List V->Hp->VK->Prop}
def tCB (r:List V->Hp->VK->Prop) (t:TA):TE:=fun σ H Q=>t σ H fun vs H1=>r vs H1 Q
theorem pe_callB (hc:CallR X (.builtin id) r) (hg:Gl X x) (hm:X.mg x=none) (hv:bootBuiltins x=some (.builtin id)) (ha:PA X (e::es) t) (hn:x ≠ "__name__" := by decide) (hdb:(x == ("__debug__" : Str))=false:=by decide)
  (he:starEach (e::es) X.env=(false,eval e X.env)::starEach es X.env:=by rfl) (hpl:(backTo pos (starEach es X.env)).any (·.1)=false:=by rfl):PE X (.Call (.Name x p) (e::es) [] pos) (tCB r t):=by
 intro pins s σ H Q I h
 refine wpAny_Call_Name_kw (ld_blt I hg hm hv ?_ hn hdb)
 exact PyProof.Rows.callWith_builtin1 (thn (ha pos pins s σ H _ I h) fun us s1 ⟨vs,H1,I1,r1,q1⟩=>hc pins s1 σ H1 vs us Q I1 r1 q1) he hpl
theorem pe_callTy (hc:CallR X (.type T) r) (hg:Gl X x) (hm:X.mg x=none) (hv:bootBuiltins x=some (.type T)) (ha:PA X (e::es) t) (hn:x ≠ "__name__" := by decide) (hdb:(x == ("__debug__" : Str))=false:=by decide)
  (he:starEach (e::es) X.env=(false,eval e X.env)::starEach es X.env:=by rfl) (hpl:(backTo pos (starEach es X.env)).any (·.1)=false:=by rfl):PE X (.Call (.Name x p) (e::es) [] pos) (tCB r t):=by
 intro pins s σ H Q I h
 refine wpAny_Call_Name_kw (ld_blt I hg hm hv ?_ hn hdb)
 exact PyProof.Rows.callWith_type1 (thn (ha pos pins s σ H _ I h) fun us s1 ⟨vs,H1,I1,r1,q1⟩=>hc pins s1 σ H1 vs us Q I1 r1 q1) he hpl
end
end L2
namespace L2
open PySem PySem.Spec PyProof.Rows
section
variable {κ:Type} [DecidableEq κ]
def valV (kvs:List (κ×V)) (k:κ):Option V:=(kvs.find? fun kv=>decide (kv.1=k)).map (·.2)
def putK (kvs:List (κ×V)) (k:κ) (v:V):List (κ×V):=
 if (kvs.any fun kv=>decide (kv.1=k))=true then kvs.map (fun kv=>if kv.1=k then (kv.1,v) else kv) else kvs++[(k,v)]
theorem valV_pos {p:κ×V} {r:List (κ×V)} {k:κ} (e:p.1=k):valV (p::r) k=some p.2:=by simp[valV,List.find?_cons,e]
theorem valV_neg {p:κ×V} {r:List (κ×V)} {k:κ} (e:¬ p.1=k):valV (p::r) k=valV r k:=by simp[valV,List.find?_cons,e]
theorem valV_any (k:κ):∀ kvs:List (κ×V),(kvs.any fun kv=>decide (kv.1=k))=(valV kvs k).isSome
 | []=>rfl
 | p::r=>by
  rw[List.any_cons]
  by_cases e:p.1=k
  ·simp only[valV_pos e,decide_eq_true e,Bool.true_or,Option.isSome_some]
  ·rw[valV_neg e,decide_eq_false e,Bool.false_or]; exact valV_any k r
theorem length_putK (kvs:List (κ×V)) (k:κ) (v:V):(putK kvs k v).length<=kvs.length+1:=by
 unfold putK
 split
 ·rw[List.length_map]; omega
 ·rw[List.length_append,List.length_cons,List.length_nil]; omega
theorem putK_new {kvs:List (κ×V)} {k:κ} (v:V) (h:valV kvs k=none):putK kvs k v=kvs++[(k,v)]:=by
 unfold putK
 rw[valV_any,h]
 exact if_neg (by decide)
theorem RelO.isSome_eq {o:Option V} {u:Option Value} (r:RelO o u):o.isSome=u.isSome:=by
 cases o with
 | none=>cases u with
  | none=>rfl
  | some _=>exact (show False from r).elim
 | some _=>cases u with
  | none=>exact (show False from r).elim
  | some _=>rfl
theorem KV.val {kvs:List (κ×V)} {vs:List (κ×Value)} (r:KV kvs vs) (k:κ):RelO (valV kvs k) (valueAt vs k):=by
 unfold KV at r
 induction r with
 | nil=>exact True.intro
 | @cons p q ps qs h t ih=>
  obtain⟨h1,h2⟩:=h
  by_cases e:p.1=k
  ·have e':q.1=k:=h1.symm.trans e
   have b:valueAt (q::qs) k=some q.2:=by simp[valueAt,List.find?_cons,e']
   rw[valV_pos e,b]; exact h2
  ·have e':¬ q.1=k:=fun z=>e (h1.trans z)
   have b:valueAt (q::qs) k=valueAt qs k:=by simp[valueAt,List.find?_cons,e']
   rw[valV_neg e,b]; exact ih
theorem KV.any {kvs:List (κ×V)} {vs:List (κ×Value)} (r:KV kvs vs) (k:κ):(kvs.any fun kv=>decide (kv.1=k))=vs.any fun kv=>decide (kv.1=k):=by
 unfold KV at r
 induction r with
 | nil=>rfl
 | cons h t ih=>rw[List.any_cons,List.any_cons,ih,h.1]
theorem KV.repl {kvs:List (κ×V)} {vs:List (κ×Value)} (r:KV kvs vs) (k:κ) {y:V} {u:Value} (ry:RelV y u) :
  KV (kvs.map fun kv=>if kv.1=k then (kv.1,y) else kv) (vs.map fun kv=>if kv.1=k then (kv.1,u) else kv):=by
 unfold KV at r ⊢
 induction r with
 | nil=>exact .nil
 | @cons p q ps qs h t ih=>
  rw[List.map_cons,List.map_cons]
  refine .cons ?_ ih
  obtain⟨h1,h2⟩:=h
  by_cases e:p.1=k
  ·rw[if_pos e,if_pos (h1.symm.trans e)]; exact⟨h1,ry⟩
  ·rw[if_neg e,if_neg (fun z=>e (h1.trans z))]; exact⟨h1,h2⟩
theorem KV.put {kvs:List (κ×V)} {vs:List (κ×Value)} (r:KV kvs vs) (k:κ) {y:V} {u:Value} (ry:RelV y u):KV (putK kvs k y) (stored vs k u):=by
 unfold putK stored
 rw[r.any k]
 by_cases e:(vs.any fun kv=>decide (kv.1=k))=true
 ·rw[if_pos e,if_pos e]; exact r.repl k ry
 ·rw[if_neg e,if_neg e]; exact Paired.snoc r ⟨rfl,ry⟩
theorem KV.length {kvs:List (κ×V)} {vs:List (κ×Value)} (r:KV kvs vs):kvs.length=vs.length:=Paired.length r
end
theorem kV_is {P:Program} {w:World} {k:Key} {u:Value} (r:RelV (kV k) u):(mixKind P w).is k u=true:=by
 cases k with
 | inl i=>obtain⟨t,e⟩:=(show ∃ t,u=Value.int i t from r); subst e; exact mixKind_int P w i t
 | inr x=>obtain⟨t,e⟩:=(show ∃ t,u=Value.str x t from r); subst e; exact mixKind_str P w x t
theorem items_are {P:Program} {w:World}:∀ {ks:List Key} {us:List Value},Vals (ks.map kV) us->ItemsAre (mixKind P w) ks us
 | [],_,r=>by rw[List.map_nil] at r; cases r; exact .nil
 | k::ks,_,r=>by
  rw[List.map_cons] at r
  cases r with
  | cons h t=>exact .cons (kV_is h) (items_are t)
abbrev KT (H:Hp):List (List Key×V)->List (List Key×Addr×Value)->Prop:=Paired fun p q=>p.1=q.1/\H q.2.1=some (.tup (p.1.map kV))/\RelV p.2 q.2.2
theorem KT.val {H:Hp} {kvs:List (List Key×V)} {xs:List (List Key×Addr×Value)} (r:KT H kvs xs) (k:List Key):RelO (valV kvs k) ((atKey xs k).map (·.2)):=by
 induction r with
 | nil=>exact True.intro
 | @cons p q ps qs h t ih=>
  obtain⟨h1,_,h2⟩:=h
  by_cases e:p.1=k
  ·have e':q.1=k:=h1.symm.trans e
   have b:atKey (q::qs) k=some q.2:=by simp[atKey,List.find?_cons,e']
   rw[valV_pos e,b]; exact h2
  ·have e':¬ q.1=k:=fun z=>e (h1.trans z)
   have b:atKey (q::qs) k=atKey qs k:=by simp[atKey,List.find?_cons,e']
   rw[valV_neg e,b]; exact ih
theorem KT.repl {H:Hp} {kvs:List (List Key×V)} {xs:List (List Key×Addr×Value)} (r:KT H kvs xs) (k:List Key) {y:V} {u:Value} (ry:RelV y u) :
  KT H (kvs.map fun kv=>if kv.1=k then (kv.1,y) else kv) (xs.map (putAt k u)):=by
 induction r with
 | nil=>exact .nil
 | @cons p q ps qs h t ih=>
  rw[List.map_cons,List.map_cons]
  refine .cons ?_ ih
  obtain⟨h1,h2,h3⟩:=h
  unfold putAt
  by_cases e:p.1=k
  ·rw[if_pos e,if_pos (h1.symm.trans e)]; exact⟨h1,h2,ry⟩
  ·rw[if_neg e,if_neg (fun z=>e (h1.trans z))]; exact⟨h1,h2,h3⟩
theorem KT.put {H:Hp} {kvs:List (List Key×V)} {xs:List (List Key×Addr×Value)} (r:KT H kvs xs) (k:List Key) {b:Addr} {y:V} {u:Value} (hb:H b=some (.tup (k.map kV))) (ry:RelV y u) :
  KT H (putK kvs k y) (storedH xs k b u):=by
 have e:(kvs.any fun kv=>decide (kv.1=k))=(atKey xs k).isSome:=by
  rw[valV_any,(r.val k).isSome_eq,Option.isSome_map]
 unfold putK storedH
 rw[e]
 by_cases q:(atKey xs k).isSome=true
 ·rw[if_pos q,if_pos q]; exact r.repl k ry
 ·rw[if_neg q,if_neg q]; exact Paired.snoc r ⟨rfl,hb,ry⟩
theorem KT.keeps {H H':Hp} {kvs:List (List Key×V)} {xs:List (List Key×Addr×Value)} (r:KT H kvs xs) (ht:∀ b ys,H b=some (.tup ys)->H' b=some (.tup ys)):KT H' kvs xs:=
 Paired.mapP r fun _ _ z=>⟨z.1,ht _ _ z.2.1,z.2.2⟩
section
variable {P:Program} {w:World} {H:Hp} {h:Heap} {a:Addr}
theorem rd_of {u:HO} (ok:HOk P w H h) (e:Rd H a u):ObjOk P w H h a u:=e.ok ok
theorem dk_rd {kvs:List (Key×V)} (ok:HOk P w H h) (e:Rd H a (.dK kvs)):kvs.length<=sizeLine/\(a == sysModules)=false/\∃ vs,KV kvs vs/\h.DictOf (mixKind P w) a vs:=
 show ObjOk P w H h a (.dK kvs) from rd_of ok e
theorem dk_of {kvs:List (Key×V)} (ok:HOk P w H h) (e:H a=some (.dK kvs)):kvs.length<=sizeLine/\(a == sysModules)=false/\∃ vs,KV kvs vs/\h.DictOf (mixKind P w) a vs:=dk_rd ok (.inl e)
theorem key_of {ks:List Key} (ok:HOk P w H h) (e:H a=some (.tup (ks.map kV))):(tupleKind (mixKind P w)).is h ks a:=by
 obtain⟨_,its,r,o,h1,h2,n,h3⟩:=(show ObjOk P w H h a (.tup (ks.map kV)) from ok a _ e)
 exact⟨o,its.toArray,n,h1,h2,h3,by simpa using items_are r⟩
theorem dt_rd {kvs:List (List Key×V)} (ok:HOk P w H h) (e:Rd H a (.dT kvs)):kvs.length<=sizeLine/\(a == sysModules)=false /\
  ∃ xs,KT H kvs xs/\h.DictOfH (tupleKind (mixKind P w)) a xs:=by
 obtain⟨z,y,xs,r,o,es,ep,h1,h2,h3,h4,h5⟩:=(show ObjOk P w H h a (.dT kvs) from rd_of ok e)
 refine⟨z,y,xs,r,o,es,ep,h1,h2,h3,h4,fun x hx=>?_,h5⟩
 have all:∀ {l:List (List Key×V)} {m:List (List Key×Addr×Value)},KT H l m->∀ x∈m,(tupleKind (mixKind P w)).is h x.1 x.2.1:=by
  intro l m q
  induction q with
  | nil=>intro x hx; exact nomatch hx
  | @cons p q ps qs hq t ih=>
   intro x hx
   rcases List.mem_cons.mp hx with e | hx
   ·subst e
    exact key_of ok (by rw[<-hq.1]; exact hq.2.1)
   ·exact ih x hx
 exact all r x hx
theorem dt_of {kvs:List (List Key×V)} (ok:HOk P w H h) (e:H a=some (.dT kvs)):kvs.length<=sizeLine/\(a == sysModules)=false /\
  ∃ xs,KT H kvs xs/\h.DictOfH (tupleKind (mixKind P w)) a xs:=dt_rd ok (.inl e)
end
def DGet (H:Hp) (a:Addr) (y:V) (r:Option V):Prop:=
 (∃ kvs k,Rd H a (.dK kvs)/\y=kV k/\r=valV kvs k)\/∃ kvs k b,Rd H a (.dT kvs)/\y=.ref b/\H b=some (.tup (k.map kV))/\r=valV kvs k
def DPut (H:Hp) (a:Addr) (y v:V) (H':Hp):Prop:=
 (∃ kvs k,H a=some (.dK kvs)/\y=kV k/\kvs.length<sizeLine/\H'=upd H a (.dK (putK kvs k v))) \/
 ∃ kvs k b,H a=some (.dT kvs)/\y=.ref b/\H b=some (.tup (k.map kV))/\kvs.length<sizeLine/\H'=upd H a (.dT (putK kvs k v))
theorem DGet.t {H:Hp} {a b:Addr} {kvs:List (List Key×V)} {k:List Key} (e:H a=some (.dT kvs)) (eb:H b=some (.tup (k.map kV))):DGet H a (.ref b) (valV kvs k):=.inr ⟨kvs,k,b,.inl e,rfl,eb,rfl⟩
theorem DPut.t {H:Hp} {a b:Addr} {kvs:List (List Key×V)} {k:List Key} {v:V} (e:H a=some (.dT kvs)) (eb:H b=some (.tup (k.map kV))) (hl:kvs.length<sizeLine) :
  DPut H a (.ref b) v (upd H a (.dT (putK kvs k v))):=.inr ⟨kvs,k,b,e,rfl,eb,hl,rfl⟩
section
variable {X:Cx} {pins:List (Addr×Obj)} {σ:St} {H:Hp} {s:Shared} {a:Addr} {y v:V} {u r:Value} {o:Option V} {A:Around} {E:Value->Shared->Prop}
theorem Inv.big (I:Inv X pins σ H s):sysModules<s.heap.objs.size:=by
 have h:mainGlobals<s.heap.objs.size:=(I.mod.glob.keeps I.bk).lt
 exact Nat.lt_trans (by decide) h
theorem d_in {Q:Value->Shared->Prop} (hu:A.units+1<cLine) (I:Inv X pins σ H s) (g:DGet H a y o) (ry:RelV y u) (h:∀ s',Inv X pins σ H s'->Q (.bool o.isSome) s') :
  wpAny (model X.prog X.w) A (compareOp .In u (.ref a)) Q E s:=by
 rcases g with ⟨kvs,k,e,ey,l⟩ | ⟨kvs,k,b,e,ey,eb,l⟩
 ·subst ey
  obtain⟨z,hd,vs,rel,dd⟩:=dk_rd I.hok e
  refine wpAny_in_of (kV_is ry) hd dd.mapOf ?_
  rw[<-(rel.val k).isSome_eq,← l]
  exact h _ (I.tok _)
 ·subst ey
  cases (show u=Value.ref b from ry)
  obtain⟨z,hd,xs,rel,dd⟩:=dt_rd I.hok e
  refine wpAny_in_heap (tupleKind_room_in1 hu) (key_of I.hok eb) hd dd ?_
  have q:=(rel.val k).isSome_eq
  rw[Option.isSome_map] at q
  rw[<-q,← l]
  exact h _ (I.tok _)
theorem d_write {h':Heap} {t':Nat} {ob:HO} (I:Inv X pins σ H s) (mu:Mut (H a)) (hs:Heap.SameBut a s.heap h') (he:∃ q,h'.get? a=some q) (new:ObjOk X.prog X.w (upd H a ob) h' a ob) :
  Inv X pins σ (upd H a ob) { s with heap:=h',toks:=t' }:=
 I.write (x:=a) (e:=a) mu (.inl rfl) (fun b q hb z=>(hs.2 b hb).trans z) he new
theorem dk_new {P:Program} {w:World} {H':Hp} {h':Heap} {kvs:List (Key×V)} {vs:List (Key×Value)} (z:kvs.length<=sizeLine) (hd:(a == sysModules)=false) (rel:KV kvs vs) (dd:h'.DictOf (mixKind P w) a vs) :
  ObjOk P w H' h' a (.dK kvs):=⟨z,hd,vs,rel,dd⟩
theorem d_setItem {H':Hp} {Q:Unit->Shared->Prop} (hu:A.units+1<cLine) (I:Inv X pins σ H s) (g:DPut H a y v H') (ry:RelV y u) (rv:RelV v r) (h:∀ s',Inv X pins σ H' s'->Q () s') :
  wpAny (model X.prog X.w) A (setItem (.ref a) u r) Q E s:=by
 rcases g with ⟨kvs,k,e,ey,l,eH⟩ | ⟨kvs,k,b,e,ey,eb,l,eH⟩
 ·subst ey eH
  obtain⟨z,hd,vs,rel,dd⟩:=dk_of I.hok e
  have hz:vs.length<=sizeLine:=by rw[<-rel.length]; exact z
  have hl:(putK kvs k v).length<=sizeLine:=by have:=length_putK kvs k v; omega
  refine wpAny_setItem_pairs (hsz:=hz) (kV_is ry) dd fun h' dd' hs=>h _ ?_
  have he:∃ q,h'.get? a=some q:=let ⟨q,_,_,hq,_⟩:=dd'; ⟨q,hq⟩
  exact d_write I (by rw[e]; exact True.intro) hs he (dk_new hl hd (rel.put k rv) dd')
 ·subst ey eH
  cases (show u=Value.ref b from ry)
  obtain⟨z,hd,xs,rel,dd⟩:=dt_of I.hok e
  have hz:xs.length<=sizeLine:=by rw[<-Paired.length rel]; exact z
  have hl:(putK kvs k v).length<=sizeLine:=by have:=length_putK kvs k v; omega
  refine wpAny_setItem_heap (hsz:=hz) (tupleKind_room_in1 hu) (key_of I.hok eb) dd fun h' dd' hs=>h _ ?_
  obtain⟨q,es,ep,hq,h2,h3,h4,_,h5⟩:=dd'
  refine d_write I (by rw[e]; exact True.intro) hs ⟨q,hq⟩ ⟨hl,hd,_,(rel.put k eb rv).keeps fun c ys ec=>?_,q,es,ep,hq,h2,h3,h4,h5⟩
  rw[upd_ne (ne_of ec e (fun z=>nomatch z))]
  exact ec
end
section
variable {X:Cx} {pins:List (Addr×Obj)} {σ:St} {H:Hp} {s:Shared} {a:Addr} {kvs:List (Key×V)} {k:Key} {u:Value} {A:Around} {E:Value->Shared->Prop}
end
def tDIn (ty td:TE):TE:=fun σ H Q=>ty σ H fun y H1=>td σ H1 fun x H2=>∃ a o,x=.ref a/\DGet H2 a y o/\Q (.bl o.isSome) H2
def sDPut (td ty tv:TE):TS:=fun D σ H=>tv σ H fun v H1=>td σ H1 fun x H2=>ty σ H2 fun y H3=>∃ a H4,x=.ref a/\DPut H3 a y v H4/\D.nx σ H4
section
variable {X:Cx} {o i e value:Expr} {pos pos' tpos:Pos} {td ty tv:TE}
theorem pc_din (hu:X.A.units+1<cLine) (hi:PE X i ty) (ho:PE X o td):PC X .In i o (tDIn ty td):=by
 intro pins s σ H Q I h
 refine thn (hi pins s σ H _ I h) fun iv s1 ⟨y,H1,I1,ry,q1⟩=>thn (ho pins s1 σ H1 _ I1 q1) fun u s2 ⟨x,H2,I2,rx,a,ov,ex,g,q2⟩=>?_
 subst ex
 obtain rfl:u=Value.ref a:=rx
 exact d_in hu I2 g ry fun s3 I3=>⟨.bl ov.isSome,H2,I3,rfl,q2⟩
theorem ps_dput (hu:X.A.units+1<cLine) (ho:PE X o td) (hi:PE X i ty) (hv:PE X value tv) (hs:swapsWith value (some (.Subscript o i pos')) pos.line X.env=pure false) :
  PS X (.Assign [.Subscript o i pos'] value pos) (sDPut td ty tv):=by
 intro pins s σ H D I h
 refine wpAny_Assign_Subscript (thn (hv pins s σ H _ I h) fun r s1 ⟨v,H1,I1,rv,q1⟩=>thn (ho pins s1 σ H1 _ I1 q1) fun u s2 ⟨x,H2,I2,rx,q2⟩=>thn (hi pins s2 σ H2 _ I2 q2) fun iv s3 ⟨y,H3,I3,ry,a,H4,ex,g,q3⟩=>?_) hs
 subst ex
 obtain rfl:u=Value.ref a:=rx
 exact d_setItem hu I3 g ry rv fun s4 I4=>⟨σ,H4,I4,q3⟩
end
theorem dt_empty {P:Program} {w:World} {H:Hp} (h:Heap) (hb:sysModules<h.objs.size):ObjOk P w H (h.push { cls:=.type "dict",data:=.dict #[] }) h.objs.size (.dT []):=
 ⟨Nat.zero_le _,beq_eq_false_iff_ne.mpr (Ne.symm (Nat.ne_of_lt hb)),[],.nil,_,#[],0,Heap.get?_push_size _ rfl,⟨rfl,rfl,rfl⟩,rfl,rfl,List.nodup_nil⟩
def tDNewT:TE:=fun _ H Q=>∀ p,H p=none->Q (.ref p) (upd H p (.dT []))
section
variable {X:Cx} {pos:Pos}
theorem pe_dnewT:PE X (.Dict [] [] pos) tDNewT:=fun pins s σ H Q I h=>
 wpAny_Dict_empty ⟨.ref s.heap.objs.size,_,I.laid (a:=s.heap.objs.size) (o:=.dT []) (t':=s.toks) (fun _ _ q=>Heap.get?_push_of_some _ q) (Nat.le_refl _) (dt_empty s.heap I.big),rfl,h _ (I.hok.fresh (Nat.le_refl _))⟩
end
abbrev VV:List (V×V)->List (Value×Value)->Prop:=Paired fun p q=>RelV p.1 q.1/\RelV p.2 q.2
section
variable {X:Cx} {pins:List (Addr×Obj)} {σ:St} {H:Hp} {s:Shared} {a:Addr} {y d:V} {u r:Value} {o:Option V} {A:Around} {E:Value->Shared->Prop}
end
section
variable {X:Cx} {o e f:Expr} {apos cpos:Pos} {td ty tx:TE}
end
section
variable {X:Cx} {pins:List (Addr×Obj)} {σ:St} {H:Hp} {s:Shared} {a:Addr} {kvs:List (Key×V)} {A:Around} {E:Value->Shared->Prop}
end
section
variable {X:Cx} {pins:List (Addr×Obj)} {σ:St} {H:Hp} {s:Shared} {a:Addr} {y:V} {u:Value} {A:Around} {E:Value->Shared->Prop}
end
end L2
namespace HT
open PySem PyProof.Rows
section
open PySem.SeqAt
open PySem.AutoSeq1 (wpAny_loadPart')
open PySem.MeetsSeq PySem.MeetsSeq2 PySem.MeetsSeq3
end
section
variable {prog:Program} {w:World} {A:Around} {E:Value->Shared->Prop} {s:Shared}
def sIx (n d:Nat):Option Int->Nat
 | none=>d
 | some v=>if v<0 then (v+(n:Int)).toNat else min v.toNat n
theorem sIx_none (n d:Nat):sIx n d none=d:=rfl
theorem sIx_nat (n d k:Nat):sIx n d (some (k:Int))=min k n:=by
 show (if (k:Int)<0 then ((k:Int)+(n:Int)).toNat else min (k:Int).toNat n)=min k n
 rw[if_neg (by omega),Int.toNat_natCast]
end
end HT
namespace L2
open PySem PySem.Spec PyProof.Rows
abbrev TO:=St->Hp->(Option Int->Hp->Prop)->Prop
def PO (X:Cx) (e:Option Expr) (t:TO):Prop:=
 ∀ (pins:List (Addr×Obj)) (s:Shared) (σ:St) (H:Hp) (Q:Option Int->Hp->Prop),Inv X pins σ H s->t σ H Q ->
  wpAny (model X.prog X.w) X.A (evalPart e X.env) (fun u s'=>∃ o H',Inv X pins σ H' s'/\IsPart u o/\Q o H') X.xe s
def tNoPart:TO:=fun _ H Q=>Q none H
def tPart (t:TE):TO:=fun σ H Q=>t σ H fun x H1=>∃ i,x=.int i/\Q (some i) H1
theorem intsAre_of {ns:List Int}:∀ {us:List Value},Vals (ns.map V.int) us->IntsAre us ns:=by
 induction ns with
 | nil=>intro us r; rw[List.map_nil] at r; cases r; exact .nil
 | cons n ns ih=>
  intro us r
  rw[List.map_cons] at r
  cases r with
  | cons r1 r2=>
   obtain⟨t,e⟩:=r1
   subst e
   exact .cons n t (ih r2)
section
variable {X:Cx} {e:Expr} {te:TE} {lo hi:Option Expr} {tl th:TO} {pos p2:Pos}
theorem po_none:PO X none tNoPart:=by
 intro pins s σ H Q I h
 rw[evalPart_none]
 exact wpAny_pure ⟨none,H,I,.none,h⟩
theorem po_some (h:PE X e te):PO X (some e) (tPart te):=by
 intro pins s σ H Q I hw
 rw[evalPart_some]
 refine thn (h pins s σ H _ I hw) fun u s1 ⟨x,H1,I1,r1,q1⟩=>?_
 obtain⟨i,rfl,q⟩:=q1
 obtain⟨t,rfl⟩:=r1
 exact⟨some i,H1,I1,.int i t,q⟩
def SlR (X:Cx) (r:V->Option Int->Option Int->Hp->VK->Prop):Prop:=
 ∀ (pins:List (Addr×Obj)) (s:Shared) (σ:St) (H:Hp) (x:V) (v vl vu:Value) (lo hi:Option Int) (sl:Addr) (Q:VK),Inv X pins σ H s->RelV x v->s.heap.IsSliceOf sl vl vu .none->IsPart vl lo->IsPart vu hi->r x lo hi H Q ->
  ∃ T id,typeLookup (.type T) "__getitem__" = pure (some (.builtin id))/\s.TypeIs v T/\wpAny (model X.prog X.w) X.A (getItem v (.ref sl)) (EP X pins σ Q) X.xe s
def tSl (r:V->Option Int->Option Int->Hp->VK->Prop) (te:TE) (tl th:TO):TE:=fun σ H Q=>te σ H fun x H1=>tl σ H1 fun l H2=>th σ H2 fun u H3=>r x l u H3 Q
theorem pe_slice {r:V->Option Int->Option Int->Hp->VK->Prop} (hr:SlR X r) (he:PE X e te) (hl:PO X lo tl) (hu:PO X hi th):PE X (.Subscript e (.Slice lo hi none p2) pos) (tSl r te tl th):=by
 intro pins s σ H Q I h
 refine Subscript_ (thn (he pins s σ H _ I h) fun v s1 ⟨x,H1,I1,r1,q1⟩=>?_)
 refine wpAny_Slice (thn (hl pins s1 σ H1 _ I1 q1) fun vl s2 ⟨l,H2,I2,pl,q2⟩=>thn (hu pins s2 σ H2 _ I2 q2) fun vu s3 ⟨u,H3,I3,pu,q3⟩=>?_)
 rw[evalPart_none]
 refine wpAny_pure ?_
 have I4:Inv X pins σ H3 { s3 with heap:=s3.heap.push { cls:=.type "slice",data:=.fields #[vl,vu,.none] } }:=I3.kept (t':=s3.toks) fun b ob q=>Heap.get?_push_of_some _ q
 obtain⟨T,id,hT,ht,hg⟩:=hr pins { s3 with heap:=s3.heap.push { cls:=.type "slice",data:=.fields #[vl,vu,.none] } } σ H3 x v vl vu l u s3.heap.objs.size Q I4 r1 (Heap.IsSliceOf.new ..) pl pu q3
 show wpAny (model X.prog X.w) X.A (subscriptTail e (.Slice lo hi none p2) v (.ref s3.heap.objs.size)) (EP X pins σ Q) X.xe { s3 with heap:=s3.heap.push { cls:=.type "slice",data:=.fields #[vl,vu,.none] } }
 exact tail_any (ops:=[.ref s3.heap.objs.size,v]) ht hT hg (by with_unfolding_all rfl)
def cutV (xs:List V) (lo hi:Option Int):List V:=(xs.drop (HT.sIx xs.length 0 lo)).take (HT.sIx xs.length xs.length hi-HT.sIx xs.length 0 lo)
theorem cutV_length (xs:List V) (lo hi:Option Int):(cutV xs lo hi).length<=xs.length:=by
 unfold cutV
 rw[List.length_take,List.length_drop]
 omega
end
end L2
namespace L2
open PySem PySem.Spec PyProof.Rows
def ixN (n:Nat) (i:Int):Option Nat:=if 0<=i then (if i<n then some i.toNat else none) else if -(n:Int)<=i then some (i+n).toNat else none
def atI {α:Type} (xs:List α) (i:Int):Option α:=(ixN xs.length i).bind fun j=>xs[j]?
theorem ixN_seq {n:Nat} {i:Int} {j:Nat} (h:ixN n i=some j):seqIndex? i n=some j/\j<n /\ -(n:Int)<=i/\i<n:=by
 unfold ixN at h
 by_cases h0:0<=i
 ·rw[if_pos h0] at h
  by_cases h1:i<n
  ·rw[if_pos h1] at h
   have e:i.toNat=j:=Option.some.inj h
   exact⟨by rw[seqIndex_of h0 h1,e],by omega,by omega,h1⟩
  ·rw[if_neg h1] at h; cases h
 ·rw[if_neg h0] at h
  by_cases h1:-(n:Int)<=i
  ·rw[if_pos h1] at h
   have e:(i+n).toNat=j:=Option.some.inj h
   exact⟨by rw[seqIndex_neg (by omega) h1,e],by omega,h1,by omega⟩
  ·rw[if_neg h1] at h; cases h
theorem atI_get {α:Type} {xs:List α} {i:Int} {v:α} (h:atI xs i=some v):∃ j,seqIndex? i xs.length=some j/\xs[j]?=some v/\j<xs.length /\ -(xs.length:Int)<=i/\i<xs.length:=by
 unfold atI at h
 cases e:ixN xs.length i with
 | none=>rw[e] at h; cases h
 | some j=>
  rw[e] at h
  obtain⟨h1,h2,h3,h4⟩:=ixN_seq e
  exact⟨j,h1,h,h2,h3,h4⟩
theorem atI_nat {α:Type} {xs:List α} {j:Nat} {v:α} (h:xs[j]?=some v):atI xs (j:Int)=some v:=by
 have hj:j<xs.length:=(List.getElem?_eq_some_iff.mp h).1
 have e:ixN xs.length (j:Int)=some j:=by
  unfold ixN
  rw[if_pos (by omega),if_pos (by omega)]; simp
 unfold atI; rw[e]; exact h
def PlainIx (b:Expr):Prop:=∀ o i,subscripted b false o i=operate [o,i] (getItem o i)
def IxR (X:Cx) (r:R2):Prop:=
 ∀ (value slice:Expr) (pins:List (Addr×Obj)) (s:Shared) (σ:St) (H:Hp) (x y:V) (v u:Value) (Q:VK),Inv X pins σ H s->RelV x v->RelV y u->r x y H Q ->
  subscripted slice false v u=operate [v,u] (getItem v u)->wpAny (model X.prog X.w) X.A (subscriptTail value slice v u) (EP X pins σ Q) X.xe s
def MtR (X:Cx) (id:String) (r:V->List V->Hp->VK->Prop):Prop:=
 ∀ (pins:List (Addr×Obj)) (s:Shared) (σ:St) (H:Hp) (x:V) (xs:List V) (v:Value) (us:List Value) (Q:VK),Inv X pins σ H s->RelV x v->Vals xs us->r x xs H Q ->
  wpAny (model X.prog X.w) X.A (call (.builtin id) (v::us)) (EP X pins σ Q) X.xe s
section
variable {X:Cx} {a b:Expr} {ta tb:TE} {pos:Pos}
theorem pe_ix {r:R2} (hr:IxR X r) (ha:PE X a ta) (hb:PE X b tb) (hs:PlainIx b):PE X (.Subscript a b pos) (tOp r ta tb):=by
 intro pins s σ H Q I h
 exact Subscript_ (binT ha hb I h fun v u s2 x y H2 I2 rx ry q=>hr a b pins s2 σ H2 x y v u Q I2 rx ry q (hs _ _))
def rIxL (K:PySem.W.Frag):R2:=fun x y H Q=>∃ p xs i v,x=.ref p/\y=.int i/\SqL K H p xs/\atI xs i=some v/\Q v H
def rIxT (K:PySem.W.Frag):R2:=fun x y H Q=>∃ p xs i v,x=.ref p/\y=.int i/\SqT K H p xs/\atI xs i=some v/\Q v H
def rIxS:R2:=fun x y H Q=>∃ z i c,x=.str z/\y=.int i/\z.length<=sizeLine/\atI z.cps.toList i=some c/\Q (.str ⟨#[c]⟩) H
theorem ix_list:IxR X (rIxL X.K):=by
 intro value slice pins s σ H x y v u Q I rx ry h hs
 obtain⟨p,xs,i,z,rfl,rfl,hq,he,q⟩:=h
 cases rx
 obtain⟨t,rfl⟩:=ry
 obtain⟨its,r,pl,hz⟩:=I.list hq
 obtain⟨j,h1,h2,h3,h4,h5⟩:=atI_get he
 obtain⟨w,ew,rw'⟩:=r.get h2
 have hl:=r.length
 have hn:=line63
 have fin:EP X pins σ Q w s:=⟨z,H,I,rw',q⟩
 by_cases h0:0<=i
 ·have hj:i.toNat=j:=by
   rw[seqIndex_of h0 h5] at h1
   exact Option.some.inj h1
  exact item_listR pl.isList h0 (by omega) (by rw[hj]; simpa using ew) fin hs
 ·have hj:(i+(its.toArray.size:Int)).toNat=j:=by
   rw[seqIndex_neg (by omega) h4] at h1
   rw[List.size_toArray,← hl]
   exact Option.some.inj h1
  exact subscriptTail_builtinR (x:=w) pl.isList.typeIs slot_list_getitem.lookup
   (wpAny_getItem_list_neg (Q:=fun r s'=>r=w/\EP X pins σ Q r s') pl.isList (by omega) (by rw[List.size_toArray] <;> omega) (by omega) (by rw[hj]; simpa using ew) ⟨rfl,fin⟩) hs
theorem ix_tup:IxR X (rIxT X.K):=by
 intro value slice pins s σ H x y v u Q I rx ry h hs
 obtain⟨p,xs,i,z,rfl,rfl,hq,he,q⟩:=h
 cases rx
 obtain⟨t,rfl⟩:=ry
 obtain⟨its,r,pl,hz⟩:=I.tuple hq
 obtain⟨j,h1,h2,h3,h4,h5⟩:=atI_get he
 obtain⟨w,ew,rw'⟩:=r.get h2
 have hl:=r.length
 have hn:=line63
 have fin:EP X pins σ Q w s:=⟨z,H,I,rw',q⟩
 exact subscriptTail_builtinR (x:=w) pl.typeIs slot_tuple_getitem.lookup
  (getItem_tuple (j:=j) (Q:=fun r s'=>r=w/\EP X pins σ Q r s') pl (by omega) (by omega) (by rw[List.size_toArray,← hl]; exact h1) (by simpa using ew) ⟨rfl,fin⟩) hs
theorem ix_str:IxR X rIxS:=by
 intro value slice pins s σ H x y v u Q I rx ry h hs
 obtain⟨z,i,c,rfl,rfl,hz,he,q⟩:=h
 obtain⟨t,rfl⟩:=rx
 obtain⟨t',rfl⟩:=ry
 obtain⟨j,h1,h2,h3,h4,h5⟩:=atI_get he
 have hl:z.cps.toList.length=z.length:=by simp[Str.length]
 rw[hl] at h1 h4 h5
 have hn:=line63
 exact tail_any (typeIs_str s z t) slot_str_getitem.lookup (getItem_str (c:=c) (by
  have e1:decide (i < -(2 ^ 63:Int))=false:=decide_eq_false (by omega)
  have e2:decide (i≥2 ^ 63)=false:=decide_eq_false (by omega)
  rw[e1,e2,Bool.or_false]) (by rw[h1]; simpa using h2) ⟨.str ⟨#[c]⟩,H,I.tok _,⟨_,rfl⟩,q⟩) hs
theorem slice_bounds (lo hi:Option Int) (n:Nat):(sliceBounds lo hi none n).1=((HT.sIx n 0 lo:Nat):Int)/\(sliceBounds lo hi none n).2.1=((HT.sIx n n hi:Nat):Int)/\(sliceBounds lo hi none n).2.2=1:=by
 refine⟨?_,?_,rfl⟩
 ·cases lo with
  | none=>simp[sliceBounds,HT.sIx]
  | some i=>
   simp only[sliceBounds,HT.sIx,Option.getD_none,show (1:Int)>0 by decide,if_true]
   by_cases h:i<0
   ·simp only[h,if_true] <;> omega
   ·simp only[h,if_false] <;> omega
 ·cases hi with
  | none=>simp[sliceBounds,HT.sIx]
  | some i=>
   simp only[sliceBounds,HT.sIx,Option.getD_none,show (1:Int)>0 by decide,if_true]
   by_cases h:i<0
   ·simp only[h,if_true] <;> omega
   ·simp only[h,if_false] <;> omega
theorem slicePick_cut (its:List Value) (lo hi:Option Int):slicePick its.toArray lo hi none=((its.drop (HT.sIx its.length 0 lo)).take (HT.sIx its.length its.length hi-HT.sIx its.length 0 lo)).toArray:=by
 obtain⟨h1,h2,h3⟩:=slice_bounds lo hi its.toArray.size
 unfold slicePick
 rw[h1,h2,h3]
 simp only[sliceRange_one,pick_run,List.size_toArray] <;> rfl
def rSlL (K:PySem.W.Frag):V->Option Int->Option Int->Hp->VK->Prop:=fun x lo hi H Q=>∃ a xs,x=.ref a/\SqL K H a xs/\∀ p,H p=none->Q (.ref p) (upd H p (.lst (cutV xs lo hi)))
theorem sl_list:SlR X (rSlL X.K):=by
 intro pins s σ H x v vl vu lo hi sl Q I rx hs pl pu h
 obtain⟨a,xs,rfl,hx,q⟩:=h
 cases rx
 obtain⟨its,r,ht,hz⟩:=I.list hx
 have hlen:=r.length
 refine⟨"list",_,slot_list_getitem.lookup,ht.isList.typeIs,?_⟩
 refine wpAny_getItem_list_slice ht.isList hs pl pu .none (by simp) ?_ (by rw[List.size_toArray] <;> omega)
 rw[slicePick_cut,← hlen]
 refine⟨.ref s.heap.objs.size,_,I.laid (t':=s.toks) (o:=.lst (cutV xs lo hi)) (fun b ob q=>Heap.get?_push_of_some _ q) (Nat.le_refl _) ?_,rfl,q _ (I.hok.fresh (Nat.le_refl _))⟩
 exact⟨Nat.le_trans (cutV_length xs lo hi) hz,_,0,(r.drop (HT.sIx xs.length 0 lo)).take (HT.sIx xs.length xs.length hi-HT.sIx xs.length 0 lo),Heap.get?_push_size _ rfl⟩
theorem op_notIn_str:OpR X (compareOp .NotIn) (fun x y H Q=>∃ i j,x=.str i/\y=.str j/\Q (.bl (!(!(Builtin.Str.occurrences j i 0 j.length 1).isEmpty))) H):=by
 intro pins s σ H x y v u Q I rx ry h
 obtain⟨i,j,rfl,rfl,q⟩:=h
 obtain⟨t,rfl⟩:=rx
 obtain⟨t',rfl⟩:=ry
 exact notIn_str ⟨.bl _,H,I,rfl,q⟩
theorem call_len_seq:CallR X (.builtin "len") (fun xs H Q=>∃ p ys,xs=[.ref p]/\(SqL X.K H p ys\/SqT X.K H p ys)/\Q (.int ys.length) H):=by
 intro pins s σ H xs us Q I r h
 obtain⟨p,ys,rfl,hq,q⟩:=h
 obtain⟨u,rfl,rx⟩:=vals1 r
 cases rx
 have hn:=line63
 rcases hq with hq | hq
 ·obtain⟨its,r',pl,hz⟩:=I.list hq
  have hlen:=r'.length
  exact Calls.call_len_list pl.isList (by simp only[List.size_toArray] <;> omega) ⟨.int ys.length,H,I.tok _,⟨s.toks+1,by rw[List.size_toArray,hlen]⟩,q⟩
 ·obtain⟨its,r',pl,hz⟩:=I.tuple hq
  have hlen:=r'.length
  exact len_tuple pl (by simp only[List.size_toArray] <;> omega) ⟨.int ys.length,H,I.tok _,⟨s.toks+1,by rw[List.size_toArray,hlen]⟩,q⟩
theorem call_len_str:CallR X (.builtin "len") (fun xs H Q=>∃ z,xs=[.str z]/\z.length<=sizeLine/\Q (.int z.length) H):=by
 intro pins s σ H xs us Q I r h
 obtain⟨z,rfl,hz,q⟩:=h
 obtain⟨u,rfl,t,rfl⟩:=vals1 r
 have hn:=line63
 exact len_str (by omega) ⟨.int z.length,H,I.tok _,⟨_,rfl⟩,q⟩
theorem call_list_of:CallR X (.type "list") (fun xs H Q=>∃ p ys,xs=[.ref p]/\(SqL X.K H p ys\/SqT X.K H p ys)/\∀ l,H l=none->Q (.ref l) (upd H l (.lst ys))):=by
 intro pins s σ H xs us Q I r h
 obtain⟨p,ys,rfl,hq,q⟩:=h
 obtain⟨u,rfl,rx⟩:=vals1 r
 cases rx
 have fin:∀ (its:List Value),Vals ys its->ys.length<=sizeLine->∀ (h':Heap) (c':Nat),(∀ b o',s.heap.get? b=some o'->h'.get? b=some o') ->
   h'.get? s.heap.objs.size=some { cls:=.type "list",dict:=none,data:=.seq its.toArray c',slots:=#[] }->EP X pins σ Q (.ref s.heap.objs.size) { s with heap:=h' }:=fun its r' hz h' c' kp e=>
  ⟨.ref s.heap.objs.size,_,I.laid (t':=s.toks) kp (Nat.le_refl _) (show ObjOk X.prog X.w _ h' _ (.lst ys) from⟨hz,its,c',r',e⟩),rfl,q _ (I.hok.fresh (Nat.le_refl _))⟩
 rcases hq with hq | hq
 ·obtain⟨its,r',pl,hz⟩:=I.list hq
  have hlen:=r'.length
  obtain⟨o,ho,hc,n,hd⟩:=pl.isList
  exact call_list_seq p (.inl rfl) ho hc hd (fun h' c' kp e=>fin its r' hz h' c' kp e) (by simp only[List.size_toArray] <;> omega)
 ·obtain⟨its,r',pl,hz⟩:=I.tuple hq
  have hlen:=r'.length
  obtain⟨o,ho,hc,n,hd⟩:=pl
  exact call_list_seq p (.inr rfl) ho hc hd (fun h' c' kp e=>fin its r' hz h' c' kp e) (by simp only[List.size_toArray] <;> omega)
def tyV (K:PySem.W.Frag) (T:String) (x:V) (H:Hp):Prop:=match x with
 | .str _=>T = "str"
 | .int _=>T = "int"
 | .ref p=>(T = "list" /\ ∃ xs,SqL K H p xs)\/(T = "tuple" /\ ∃ o,K.lookup p=some o/\o.cls=.type "tuple" /\ o.dict=none) \/
   (T = "dict" /\ ((∃ kvs,H p=some (.dK kvs))\/∃ kvs,H p=some (.dT kvs)))\/(T = "set" /\ ∃ S n,H p=some (.set S n))
 | _=>False
theorem tyV_is {pins:List (Addr×Obj)} {σ:St} {H:Hp} {s:Shared} {T:String} {x:V} {v:Value} (I:Inv X pins σ H s) (r:RelV x v) (ty:tyV X.K T x H) :
  s.TypeIs v T/\∀ a,v=.ref a->∃ ob,s.heap.get? a=some ob/\ob.dict=none:=by
 cases x with
 | str z=>
  obtain⟨t,rfl⟩:=r
  cases (show T = "str" from ty)
  exact⟨typeIs_str s z t,fun _ e=>nomatch e⟩
 | int i=>
  obtain⟨t,rfl⟩:=r
  cases (show T = "int" from ty)
  exact⟨typeIs_int s i t,fun _ e=>nomatch e⟩
 | ref p=>
  cases r
  rcases ty with ⟨rfl,xs,hq⟩ | ⟨rfl,o,hk,hc,hd⟩ | ⟨rfl,hk⟩ | ⟨rfl,S,n,hk⟩
  ·obtain⟨its,_,pl,_⟩:=I.list hq
   refine⟨pl.isList.typeIs,fun a e=>?_⟩
   cases e
   obtain⟨o,n,e,c,hd,_⟩:=pl
   exact⟨o,e,hd⟩
  ·refine⟨⟨o,I.kIn p o hk,hc⟩,fun a e=>?_⟩
   cases e
   exact⟨o,I.kIn _ o hk,hd⟩
  ·have z:∃ o,s.heap.get? p=some o/\o.ExactDict:=by
    rcases hk with ⟨kvs,hk⟩ | ⟨kvs,hk⟩
    ·obtain⟨_,_,_,_,o,_,_,e,ex,_⟩:=I.hok p _ hk
     exact⟨o,e,ex⟩
    ·obtain⟨_,_,_,_,o,_,_,e,ex,_⟩:=I.hok p _ hk
     exact⟨o,e,ex⟩
   obtain⟨o,e,ex⟩:=z
   refine⟨⟨o,e,ex.1⟩,fun a e2=>?_⟩
   cases e2
   exact⟨o,e,ex.2.1⟩
  ·obtain⟨o,_,_,_,e,ex,_⟩:=I.hok p _ hk
   refine⟨⟨o,e,ex.1⟩,fun a e2=>?_⟩
   cases e2
   exact⟨o,e,ex.2.1⟩
 | _=>exact False.elim ty
def tBM0 (K:PySem.W.Frag) (T:String) (r:V->List V->Hp->VK->Prop) (to:TE):TE:=fun σ H Q=>to σ H fun x H1=>tyV K T x H1/\r x [] H1 Q
def tBM (K:PySem.W.Frag) (T:String) (r:V->List V->Hp->VK->Prop) (to:TE) (t:TA):TE:=fun σ H Q=>to σ H fun x H1=>tyV K T x H1/\t σ H1 fun xs H2=>r x xs H2 Q
variable {o e:Expr} {es:List Expr} {to:TE} {t:TA} {name:Str} {apos cpos:Pos} {T id:String} {r:V->List V->Hp->VK->Prop}
theorem pe_bm0 (pa:PlainAttrs T) (slot:Slot T name id) (hty:typeOf (.builtin id)=pure (.type "method_descriptor")) (hm:MtR X id r) (ho:PE X o to)
  (hbase:attributeBase o name X.env (eval o X.env)=eval o X.env:=by rfl) (hline:(apos.endLine == cpos.line)=true:=by rfl):PE X (.Call (.Attribute o name apos) [] [] cpos) (tBM0 X.K T r to):=by
 intro pins s σ H Q I h
 refine wpAny_Call_method0_late hbase hline (thn (ho pins s σ H _ I h) fun v s1 ⟨x,H1,I1,r1,ty,q1⟩=>?_)
 obtain⟨h1,h2⟩:=tyV_is I1 r1 ty
 exact⟨T,id,pa,slot,hty,h1,h2,Calls.callWith_builtin rfl (PySem.evalArgs_none (hm pins s1 σ H1 x [] v [] Q I1 r1 .nil q1))⟩
theorem pe_bm (pa:PlainAttrs T) (slot:Slot T name id) (hty:typeOf (.builtin id)=pure (.type "method_descriptor")) (hm:MtR X id r) (ho:PE X o to) (ha:PA X (e::es) t)
  (hbase:attributeBase o name X.env (eval o X.env)=eval o X.env:=by rfl)
  (hfew:((backTo cpos (starEach (e::es) X.env)).all (fun x=>!x.1)&&(backToKw cpos (keywordEach [] X.env)).all (fun x=>x.1.isSome)
   && decide ((e::es).length+([]:List Keyword).length+(if ([]:List Keyword).isEmpty then 0 else 1)<30))=true:=by rfl)
  (hline:(apos.endLine == cpos.line)=true:=by rfl) (hs:starEach (e::es) X.env=(false,eval e X.env)::starEach es X.env:=by rfl) (hplain:(backTo cpos (starEach es X.env)).any (·.1)=false:=by rfl) :
  PE X (.Call (.Attribute o name apos) (e::es) [] cpos) (tBM X.K T r to t):=by
 intro pins s σ H Q I h
 refine wpAny_Call_method_late hbase hfew hline rfl (thn (ho pins s σ H _ I h) fun v s1 ⟨x,H1,I1,r1,ty,q1⟩=>?_)
 obtain⟨h1,h2⟩:=tyV_is I1 r1 ty
 refine⟨T,id,pa,slot,hty,h1,h2,?_⟩
 have hA:=ha cpos pins s1 σ H1 _ I1 q1
 rw[hs] at hA ⊢
 refine Calls.callWith_builtin (by show (false||(backTo cpos (starEach es X.env)).any (·.1))=false; rw[hplain] <;> rfl) (Calls.evalArgs_plain ?_)
 exact thn hA fun us s2 ⟨vs,H2,I2,r2,q2⟩=>hm pins s2 σ H2 x vs v us Q I2 r1 r2 q2
/- xs.append(e),list.index on a module's tuple .. are MtR facts of 06m -/
end
end L2
namespace L2
open PySem PySem.Spec PyProof.Rows
def MtM (X:Cx) (id:String) (r:V->List V->Hp->VK->Prop):Prop:=
 ∀ (pins:List (Addr×Obj)) (s:Shared) (σ:St) (H:Hp) (x:V) (xs:List V) (v:Value) (us:List Value) (Q:VK),Inv X pins σ H s->RelV x v->Vals xs us->r x xs H Q ->
  wpAny (model X.prog X.w) X.A (call (.builtin id) (v::us)) (EP X pins σ Q) X.xe s
theorem Vals.one:∀ {x:V} {us:List Value},Vals [x] us->∃ u,us=[u]/\RelV x u
 | _,_,.cons r .nil=>⟨_,rfl,r⟩
theorem Vals.zero:∀ {us:List Value},Vals [] us->us=[]
 | _,.nil=>rfl
theorem Vals.dropLast {xs:List V} {us:List Value} (h:Vals xs us):Vals xs.dropLast us.dropLast:=by
 induction h with
 | nil=>exact .nil
 | cons r t ih=>
  cases t with
  | nil=>exact .nil
  | cons q t'=>exact .cons r ih
theorem Vals.eraseIdx:∀ {xs:List V} {us:List Value} (i:Nat),Vals xs us->Vals (xs.eraseIdx i) (us.eraseIdx i)
 | _,_,_,.nil=>.nil
 | _,_,0,.cons _ t=>t
 | _,_,i+1,.cons r t=>.cons r (Vals.eraseIdx i t)
theorem erase_last {α:Type} (l:List α):l.eraseIdx (l.length-1)=l.dropLast:=by
 induction l with
 | nil=>rfl
 | cons a r ih=>
  cases r with
  | nil=>rfl
  | cons b r=>
   have e:(a::b::r).length-1=((b::r).length-1)+1:=by
    have h1:(a::b::r).length=r.length+2:=rfl
    have h2:(b::r).length=r.length+1:=rfl
    omega
   rw[e,List.eraseIdx_cons_succ,ih]
   all_goals rfl
theorem len_erase {α:Type}:∀ (l:List α) (i:Nat),(l.eraseIdx i).length<=l.length
 | [],_=>Nat.le_refl _
 | _::_,0=>Nat.le_succ _
 | _::r,i+1=>Nat.succ_le_succ (len_erase r i)
section
variable {X:Cx} {pins:List (Addr×Obj)} {σ:St} {H:Hp} {s:Shared} {l b:Addr} {xs ys zs:List V}
theorem Inv.lset {its its':List Value} {n:Nat} {f:Array Value->Array Value} {t':Nat} (I:Inv X pins σ H s) (hH:H l=some (.lst xs))
  (e:s.heap.get? l=some { cls:=.type "list",data:=.seq its.toArray n }) (hf:f its.toArray=its'.toArray) (hv:Vals ys its') (hz:ys.length<=sizeLine) :
  Inv X pins σ (upd H l (.lst ys)) { s with heap:=s.heap.update l (Obj.mapSeq f),toks:=t' }:=by
 have q:=PySem.IsL.update e f
 rw[hf] at q
 refine I.write (x:=l) (e:=l) (by rw[hH]; exact trivial) (.inl rfl) (fun b' u hb hu=>(Heap.get?_update_other s.heap (Obj.mapSeq f) (Ne.symm hb)).trans hu) ⟨_,q⟩ ?_
 exact⟨hz,its',_,hv,q⟩
theorem Inv.lnew {its:List Value} {t':Nat} (I:Inv X pins σ H s) (hv:Vals ys its) (hz:ys.length<=sizeLine) :
  Inv X pins σ (upd H s.heap.objs.size (.lst ys)) { s with heap:=s.heap.push { cls:=.type "list",data:=.seq its.toArray },toks:=t' }:=
 I.laid (fun _ _ q=>Heap.get?_push_of_some _ q) (Nat.le_refl _) ⟨hz,its,0,hv,Heap.get?_push_size _ rfl⟩
theorem Inv.fresh (I:Inv X pins σ H s):H s.heap.objs.size=none:=I.hok.fresh (Nat.le_refl _)
theorem Inv.lstM (I:Inv X pins σ H s) (hH:H l=some (.lst xs)):xs.length<=sizeLine/\∃ (its:List Value) (n:Nat),Vals xs its/\xs.length=its.length/\s.heap.get? l=some { cls:=.type "list",data:=.seq its.toArray n }:=by
 obtain⟨z,its,n,r,e⟩:=I.hok l _ hH
 exact⟨z,its,n,r,r.length,e⟩
end
section
variable {X:Cx}
def rAppend:V->List V->Hp->VK->Prop:=fun x vs H Q=>∃ l xs y,x=.ref l/\vs=[y]/\H l=some (.lst xs)/\xs.length<sizeLine/\Q .non (upd H l (.lst (xs++[y])))
theorem mt_append:MtM X "list.append" rAppend:=by
 intro pins s σ H x vs v us Q I rx rv h
 obtain⟨l,xs,y,rfl,rfl,hH,hz,q⟩:=h
 cases rx
 obtain⟨u,rfl,ru⟩:=rv.one
 obtain⟨z,its,n,r,hl,e⟩:=I.lstM hH
 refine call_meets F.slot_list_append ⟨_,e,rfl⟩ F.entry_list_append (F.args_list_append_2 _ _) (PySem.list_append l its.toArray n u (by rw[List.size_toArray]; omega)) ⟨e,?_⟩
 refine⟨.non,_,I.lset (its':=its++[u]) hH e (by simp) (r.append (.cons ru .nil)) ?_,rfl,q⟩
 rw[List.length_append,List.length_singleton]
 omega
def rPop:V->List V->Hp->VK->Prop:=fun x vs H Q=>∃ l xs y,x=.ref l/\vs=[]/\H l=some (.lst xs)/\xs[xs.length-1]?=some y/\Q y (upd H l (.lst xs.dropLast))
theorem mt_pop:MtM X "list.pop" rPop:=by
 intro pins s σ H x vs v us Q I rx rv h
 obtain⟨l,xs,y,rfl,rfl,hH,hy,q⟩:=h
 cases rx
 have hus:=rv.zero
 subst hus
 obtain⟨z,its,n,r,hl,e⟩:=I.lstM hH
 obtain⟨u,hu,ru⟩:=r.get hy
 have hy':its.toArray[its.toArray.size-1]?=some u:=by
  show its.toArray[its.length-1]?=some u
  rw[<-Array.getElem?_toList,← hl]
  exact hu
 refine call_meets F.slot_list_pop ⟨_,e,rfl⟩ F.entry_list_pop (F.args_list_pop_1 _) (MeetsSeq.list_pop_last l its.toArray n u hy' (by rw[List.size_toArray]; omega)) ⟨e,?_⟩
 refine⟨y,_,I.lset (its':=its.dropLast) hH e ?_ r.dropLast ?_,ru,q⟩
 ·show its.toArray.eraseIdxIfInBounds (its.toArray.size-1)=its.dropLast.toArray
  rw[List.size_toArray,List.eraseIdxIfInBounds_toArray,erase_last]
 ·rw[List.length_dropLast]
  omega
def rPopAt:V->List V->Hp->VK->Prop:=fun x vs H Q=>∃ l xs i k y,x=.ref l/\vs=[.int i]/\H l=some (.lst xs) /\ -(2 ^ 63)<=i/\i<2 ^ 63/\seqIndex? i xs.length=some k/\xs[k]?=some y/\Q y (upd H l (.lst (xs.eraseIdx k)))
theorem mt_popAt:MtM X "list.pop" rPopAt:=by
 intro pins s σ H x vs v us Q I rx rv h
 obtain⟨l,xs,i,k,y,rfl,rfl,hH,h1,h2,hk,hy,q⟩:=h
 cases rx
 obtain⟨u,rfl,ru⟩:=rv.one
 obtain⟨t,rfl⟩:=ru
 obtain⟨z,its,n,r,hl,e⟩:=I.lstM hH
 obtain⟨w,hw,rw'⟩:=r.get hy
 refine call_meets F.slot_list_pop ⟨_,e,rfl⟩ F.entry_list_pop (F.args_list_pop_2 _ _)
  (MeetsSeq.list_pop_at l its.toArray n i t k w (fitsIndex_both h1 h2) (by rw[List.size_toArray,← hl]; exact hk) (by rw[<-Array.getElem?_toList]; exact hw) (by rw[List.size_toArray]; omega)) ⟨e,?_⟩
 refine⟨y,_,I.lset (its':=its.eraseIdx k) hH e ?_ (r.eraseIdx k) ?_,rw',q⟩
 ·show its.toArray.eraseIdxIfInBounds k=(its.eraseIdx k).toArray
  rw[List.eraseIdxIfInBounds_toArray]
 ·have:=len_erase xs k
  omega
def rCat:R2:=fun x y H Q=>∃ l b xs zs,x=.ref l/\y=.ref b/\H l=some (.lst xs)/\H b=some (.lst zs)/\xs.length+zs.length<=sizeLine/\∀ p,H p=none->Q (.ref p) (upd H p (.lst (xs++zs)))
theorem op_cat:OpR X (binaryOp .Add) rCat:=by
 intro pins s σ H x y v u Q I rx ry h
 obtain⟨l,b,xs,zs,rfl,rfl,hH,hB,hz,q⟩:=h
 cases rx
 cases ry
 obtain⟨z,its,n,r,hl,e⟩:=I.lstM hH
 obtain⟨z2,its2,n2,r2,hl2,e2⟩:=I.lstM hB
 refine PySem.P.add_list e e2 ?_ (by rw[List.size_toArray,List.size_toArray]; omega)
 have ea:its.toArray++its2.toArray=(its++its2).toArray:=by simp
 rw[ea]
 exact⟨.ref _,_,I.lnew (t':=s.toks) (r.append r2) (by rw[List.length_append]; omega),rfl,q _ I.fresh⟩
end
section
variable {prog:Program} {w:World} {A:Around} {E:Value->Shared->Prop} {s:Shared}
end
section
variable {X:Cx}
end
end L2
namespace Att
open PySem PySem.W PySem.Calls PyProof.Rows
theorem ints_of_wellAll {P:Params} {h:Heap}:∀ (ns:List Int) (vs:List Value),WellAll P h vs (ns.map WData.int)->IntsAre vs ns:=by
 intro ns
 induction ns with
 | nil=>
  intro vs w
  rw[List.map_nil] at w
  cases w
  exact .nil
 | cons n ns ih=>
  intro vs w
  rw[List.map_cons] at w
  cases w with
  | cons a b=>
   cases a
   exact .cons _ _ (ih _ b)
theorem script_of {l:OpenLaw} {n:Nat} (hn:l.most=some n) {P:Params} {h:Heap} {args:List WData} {vals:List Value}
  (hpre:l.row.toRowW.claim.pre args=true) (hwl:WellAll P h vals args) :
  ∃ a vs ns,vals=[Value.ref a]/\args=[WData.list (ns.map WData.int)]/\h.get? a=some { cls:=.type "list",data:=.seq vs.toArray }/\IntsAre vs ns/\ns.length<=n:=by
 have hsh:WShape.hasAll [] args [.list .int]=true:=(pre_splitW hpre).1
 have hc:l.pre.holds [] { args:=args }=true:=(pre_splitW hpre).2
 obtain⟨d,r,rfl,h1,h2⟩:=hasAllW_cons hsh
 obtain rfl:=hasAllW_nil h2
 obtain⟨xs,rfl,h3⟩:=hasW_list h1
 obtain⟨ns,rfl⟩:=items_int h3
 have hlen:ns.length<=n:=by
  unfold OpenLaw.pre at hc
  have h4:(WTm.not (.lt (.lit (.int (n:Int))) (.len (.arg 0)))).holds [] { args:=[.list (ns.map .int)] }=true:=by
   have h4:=(holds_andW hc).1
   rw[hn] at h4
   exact h4
  have h5:=condW_of h4 (w_not (w_lt w_lit (w_len_list (w_arg rfl))))
  rw[List.length_map] at h5
  refine Nat.le_of_not_lt fun q=>?_
  have q':(n:Int)<((ns.length:Nat):Int):=by omega
  first
   | (rw[decide_eq_true q'] at h5; exact absurd h5 (by decide))
   | (simp at h5; omega)
 cases hwl with
 | cons w1 w2=>
  cases w2
  cases w1 with
  | list ho hall=>exact⟨_,_,ns,rfl,rfl,ho,ints_of_wellAll ns _ hall,hlen⟩
theorem post_true (l:OpenLaw) (args:List WData):l.row.toRowW.claim.post args (.bool true) args=true:=
 postW_of (r:=l.row.toRowW) (X:=(true == true))
  (show WShape.has [] (.bool true) .bool=true by first | rfl | decide | simp[WShape.has,WShape.arms,WShape.armsAll])
  (show (WTm.eq .res (.lit (.bool true))).value [] { args:=args,res:=some (.bool true),after:=args }=some (.bool (true == true)) from w_eq_bool (w_res rfl) w_lit) rfl
theorem attach_call {l:OpenLaw} {n:Nat} {q:Program} {loose:List Str} {XP:(Str->Option Value)->Heap->Prop} {YP:World->Heap->Prop} {d:DefRec}
  (hn:l.most=some n) (hdf:d.params.defaults=[])
  (call:∀ (w:World) (s₀ s₁:Shared) (mg mb:Str->Option Value) (fa:Addr) (o:Obj) (pm cd doc:Value) (a:Addr) (vs:List Value) (ns:List Int),
   Ground q loose [] XP w s₀ mg mb s₁.heap->YP w s₁.heap ->
   s₁.heap.get? fa=some o->o.data=.func (docDef d.name d.params d.body d.scope pm cd doc)->s₁.heap.CodeRec cd d.name->mg d.name=some (.ref fa) ->
   s₁.heap.get? a=some { cls:=.type "list",data:=.seq vs.toArray }->IntsAre vs ns->ns.length<=n->s₁.gens = #[] ->
   codeAny (model l.prog w) callerA (.call (.ref fa) ⟨[.ref a],[]⟩) (fun r s'=>r=.ok (.ret (.bool true))/\OldK s₁.heap s'.heap/\s'.os=s₁.os/\AllBare s'.gens) s₁) :
  WalkO q loose XP YP l.row.toRowW d [] (fun f vs=>PySem.call f vs):=by
 intro w s₀ s₁ mg mb G Y fa o pm cd doc dV kV ho hd hcd hD hmg hg args vals as hpre hlay hrd hwl hlo
 obtain rfl:dV=.none:=Dflts.none hD hdf
 obtain rfl:kV=.none:=Dflts.noKw hD
 obtain⟨a,vs,ns,rfl,rfl,hobj,hints,hlen⟩:=script_of hn hpre hwl
 refine enter_call (codeAny_mono (call w s₀ s₁ mg mb fa o pm cd doc a vs ns G Y ho (fd_plain hd) hcd hmg hobj hints hlen hg) fun r s' hq=>?_)
 obtain⟨rfl,h2,h3,h4⟩:=hq
 exact⟨.inl ⟨.bool true,.bool true,[],rfl,fun _=>rfl,.bool true,post_true l _,fun _=>⟨List.Pairwise.nil,fun _ hm=>(nomatch hm)⟩⟩,h2,h3,h4⟩
section
variable {prog:Program} {w:World} {A:Around} {E:Value->Shared->Prop} {s:Shared} {K:Frag}
end
end Att
namespace L2
open PySem PySem.Spec PyProof.Rows
theorem vals_ints:∀ {vs:List Value} {ns:List Int},IntsAre vs ns->Vals (ns.map V.int) vs
 | _,_,.nil=>.nil
 | _,_,.cons n t h=>.cons ⟨t,rfl⟩ (vals_ints h)
def Only (H:Hp):Prop:=∀ b,H b=none\/∃ o xs,H b=some (.frz o (.lst xs))
theorem law_call {P:Program} {w:World} {K:PySem.W.Frag} {mg mb:Str->Option Value} {CX:CXT} {k:Nat} {fa a:Addr} {fd:FuncData} {x:Str} {sp:Sp} {s₁:Shared} {vs:List Value} {ns:List Int}
  (KX:K.In s₁.heap) (hns:s₁.heap.Ns mainGlobals mg) (hb:s₁.heap.Ns builtinsNs mb) (hbb:∀ x:Str,x ≠ "__name__" -> mb x=bootBuiltins x) (hlim:s₁.heap.NoLimit) (hg:s₁.gens = #[])
  (ha:s₁.heap.get? a=some { cls:=.type "list",data:=.seq vs.toArray }) (hi:IntsAre vs ns) (hl:ns.length<=sizeLine) (hr:Room k callerA)
  (F:∀ base:Heap,K.In base->base.Ns mainGlobals mg->FnOk P w K mg base CX k fa fd [x] sp) (hbind:∀ (s:Shared) (u:Value),BindsTo s fd ⟨[u],[]⟩ [(x,u)])
  (hsp:∀ H:Hp,Only H->SqL K H a (ns.map V.int)->sp [.ref a] H (fun v _=>v=.bl true) fun _ _ _=>False)
  (hCX:∀ H e s',CX [] H s₁ (fun _ _ _=>False) e s'->False) :
  codeAny (model P w) callerA (.call (.ref fa) ⟨[.ref a],[]⟩) (fun r s'=>r=.ok (.ret (.bool true))/\OldK s₁.heap s'.heap/\s'.os=s₁.os/\AllBare s'.gens) s₁:=by
 have rv:=vals_ints hi
 have lenV:=hi.length
 have core:∀ H:Hp,Only H->SqL K H a (ns.map V.int)->HOk P w H s₁.heap->(∀ b,H b≠none->b=a)->(H a≠none->K.lookup a=none) ->
   codeAny (model P w) callerA (.call (.ref fa) ⟨[.ref a],[]⟩) (fun r s'=>r=.ok (.ret (.bool true))/\OldK s₁.heap s'.heap/\s'.os=s₁.os/\AllBare s'.gens) s₁:=by
  intro H hO hS hok hA hK
  have base_of:∀ {b:Addr} {o:Obj},s₁.heap.get? b=some o->H b=none->(hidT s₁.heap H).get? b=some o:=fun e n=>hidT_get e n
  have noA:∀ {b:Addr} {o:Obj} {es:Array DictEntry} {ep:Nat},s₁.heap.get? b=some o->o.data=.dict es ep->H b=none:=fun {b o es ep} e d=>by
   cases q:H b with
   | none=>rfl
   | some u=>
    have e':b=a:=hA b (by rw[q]; simp)
    subst e'
    rw[ha] at e; cases e
    have d':Data.seq vs.toArray _=Data.dict es ep:=d
    cases d'
  have nsK:∀ {b:Addr} {m:Str->Option Value},s₁.heap.Ns b m->(hidT s₁.heap H).Ns b m:=fun {b m} ⟨o,es,ep,e,d,r⟩=>⟨o,es,ep,base_of e (noA e d),d,r⟩
  have hKb:K.In (hidT s₁.heap H):=fun b o e=>base_of (KX b o e) (by
   cases q:H b with
   | none=>rfl
   | some u=>
    have e':b=a:=hA b (by rw[q]; simp)
    subst e'
    rw[hK (by rw[q]; simp)] at e; cases e)
  have hM:Mod K mg (hidT s₁.heap H):=⟨hKb,nsK hns,⟨mb,nsK hb,hbb⟩,let ⟨mc,h1,h2⟩:=hlim; ⟨mc,nsK h1,h2⟩⟩
  have e0:Env0 P w K mg (hidT s₁.heap H) callerA [] s₁ H:=⟨rfl,hM,fun b o e=>of_hidT e,Nat.le_of_eq (hidT_size _ _),trivial,fun b hb=>absurd (show b∈([]:List Addr) from hb) (by simp),hok,.of_eq hg⟩
  refine codeAny_mono ((F _ hKb (nsK hns)).run callerA [] s₁ H ⟨[.ref a],[]⟩ [.ref a] [.ref a] _ _ hr e0 (hbind s₁ (.ref a)) (.cons rfl .nil) (hsp H hO hS)) fun r s' h=>?_
  cases r with
  | error e=>exact (hCX H e s' h).elim
  | ok fl=>
   cases fl with
   | next=>exact False.elim h
   | brk=>exact False.elim h
   | cont=>exact False.elim h
   | ret u=>
    obtain⟨v,H',os,bare,un,hok',r',q⟩:=h
    have q':v=.bl true:=q
    subst q'
    obtain rfl:u=Value.bool true:=r'
    refine⟨rfl,OldK.of_keep fun b o e=>?_,os,bare⟩
    cases q:H b with
    | none=>exact un.keep b o e q (by intro z; exact absurd (show b∈([]:List Addr) from z) (by simp)) (by simp)
    | some u=>
     rcases hO b with z | ⟨ob,xs,z⟩
     ·rw[q] at z; cases z
     ·have z2:=un.frzs b ob _ z
      obtain⟨e1,_⟩:=hok b _ z
      obtain⟨e2,_⟩:=hok' b _ z2
      rw[e] at e1; cases e1
      exact e2
 cases hk:K.lookup a with
 | some o=>
  have e:=KX a o hk
  rw[ha] at e
  cases e
  refine core (fun _=>none) (fun _=>.inl rfl) (.inr ⟨_,vs.toArray,_,hk,rfl,rfl,rfl,by rw[List.size_toArray,lenV]; exact hl,by simpa using rv⟩) (fun b u z=>by have z':(none:Option HO)=some u:=z; cases z') (fun b z=>absurd rfl z) fun z=>absurd rfl z
 | none=>
  refine core (fun b=>if b=a then some (.frz { cls:=.type "list",data:=.seq vs.toArray } (.lst (ns.map V.int))) else none) (fun b=>?_) (.inl (.inr ⟨{ cls:=.type "list",data:=.seq vs.toArray },if_pos rfl⟩)) (fun b u z=>?_) (fun b z=>?_) fun _=>hk
  ·by_cases hb:b=a
   ·exact .inr ⟨_,_,if_pos hb⟩
   ·exact .inl (if_neg hb)
  ·by_cases hb:b=a
   ·have z':=(if_pos hb).symm.trans z
    cases z'
    subst hb
    exact⟨ha,by rw[List.length_map]; exact hl,vs,_,rv,ha⟩
   ·have z':=(if_neg hb).symm.trans z
    cases z'
  ·by_cases hb:b=a
   ·exact hb
   ·exact absurd (if_neg hb) z
end L2
namespace L2
open PySem PySem.Spec PyProof.Rows
abbrev KOf {K:PySem.W.Frag} {h:Heap} (_:K.In h):PySem.W.Frag:=K
theorem walk_of {l:PySem.W.OpenLaw} {n k:Nat} {q:Program} {loose:List Str} {XP:(Str->Option Value)->Heap->Prop} {YP:World->Heap->Prop} {d:DefRec} {K:Params->PySem.W.Frag} {CX:World->CXT} {sp:World->Sp} {x:Str}
  (hn:l.most=some n) (hn2:n<=sizeLine) (hdf:d.params.defaults=[]) (hr:Room k callerA)
  (hY:∀ (w:World) (h:Heap),YP w h->(K w.params).In h)
  (F:∀ (w:World) (mg:Str->Option Value) (fa:Addr) (h:Heap),(K w.params).In h->h.Ns mainGlobals mg->mg d.name=some (.ref fa) ->
   ∃ fd:FuncData,(∀ (s:Shared) (u:Value),BindsTo s fd ⟨[u],[]⟩ [(x,u)]) /\
    ∀ base:Heap,(K w.params).In base->base.Ns mainGlobals mg->FnOk l.prog w (K w.params) mg base (CX w) k fa fd [x] (sp w))
  (hsp:∀ (w:World) (H:Hp) (a:Addr) (ns:List Int),ns.length<=n->Only H->SqL (K w.params) H a (ns.map V.int)->sp w [.ref a] H (fun v _=>v=.bl true) fun _ _ _=>False)
  (hCX:∀ (w:World) (H:Hp) (s:Shared) (e:Value) (s':Shared),CX w [] H s (fun _ _ _=>False) e s'->False) :
  PySem.W.WalkO q loose XP YP l.row.toRowW d [] (fun f vs=>PySem.call f vs):=by
 refine Att.attach_call hn hdf fun w s₀ s₁ mg mb fa o pm cd doc a vs ns G Y ho hd hcd hmg hobj hints hlen hg=>?_
 have KX:=hY w _ Y
 obtain⟨fd,hb,hF⟩:=F w mg fa _ KX G.T.g hmg
 exact law_call KX G.T.g G.T.b G.T.builtins G.T.nolimit hg hobj hints (Nat.le_trans hlen hn2) hr hF hb (fun H hO hS=>hsp w H a ns hlen hO hS) fun H e s'=>hCX w H s₁ e s'
end L2
/- THE LAST THEOREM (shape; LID,My.* are yours):
   My.Adr: a structure of the addresses that your layer names (classes,functions); My.Txt K t: a structure (Prop) of the equations over K;
   My.txt_mk:{K} {implicit addresses ..} (e1:nsIn K mainGlobals "law" = some (some (.ref f))) (e2:K.lookup f=some ⟨oc,od,.func (fnOf "law" "law" params body scope dV kV doc pm an cdv ct),sl⟩) (e3:codeIn K cdv "law" = true) .. : ∃ t,My.Txt K t
(the tactic k_is has no namespace: write k_is) -/
namespace L2
open PySem PySem.Spec PyProof.Rows
def inClass (s:Stmt) (j:Nat):Stmt:=match s with
 | .ClassDef _ _ _ body _ _ _ _ _ _ _=>body.getD j (.Pass ⟨0,0,0,0⟩)
 | _=>.Pass ⟨0,0,0,0⟩
def defArgs (s:Stmt):Arguments:=match s with
 | .FunctionDef _ a _ _ _ _ _ _ _ _=>a
 | _=>{ posonlyargs:=[],args:=[],vararg:=none,kwonlyargs:=[],kw_defaults:=[],kwarg:=none,defaults:=[] }
def defBody (s:Stmt):List Stmt:=match s with
 | .FunctionDef _ _ b _ _ _ _ _ _ _=>b
 | _=>[]
def defScope (s:Stmt):Scope:=match s with
 | .FunctionDef _ _ _ _ _ _ sc _ _ _=>sc
 | _=>{ kind:=.function,names:=[],isGenerator:=false,isCoroutine:=false }
abbrev CX0:CXT:=fun _ _ _ _ _ _=>False
abbrev E0:XK:=fun _ _ _=>False
theorem pass0 {X:Cx}:Passes CX0 X E0:=fun _ _ _ _ _ _ _ h=>h.elim
structure Fun (K:PySem.W.Frag) (x qual:Str) (st:Stmt) (f:Addr) (fd:FuncData):Prop where
 ex:∃ (oc:Value) (od:Option Addr) (kV doc pm:Value) (an:Option Addr) (cdv ct:Value) (osl:Array (Option Value)),
  fd=PySem.W.fnOf x qual (defArgs st) (defBody st) (defScope st) .none kV doc pm an cdv ct/\K.lookup f=some ⟨oc,od,.func fd,osl⟩/\PySem.W.codeIn K cdv qual=true
 kp:PySem.W.keepIn K (.ref f)=true
section
variable {P:Program} {w:World} {K:PySem.W.Frag} {mg:Str->Option Value} {base:Heap}
theorem Fun.ok {x qual:Str} {st:Stmt} {f:Addr} {fd:FuncData} {N ps:List Str} {k:Nat} {sp:Sp} (F:Fun K x qual st f fd) (S:FnScope N ps (defScope st)) (len:∀ vs H Q E,sp vs H Q E->vs.length=ps.length)
  (hbody:∀ (cdv:Value) (A:Around) (outer:List Env) (s:Shared) (H:Hp) (vs:List V) (Q:VK) (E:XK),Room k (A.deeper (envOfC qual (defScope st) s.heap.objs.size f cdv))->sp vs H Q E ->
   ∃ t,PSs (cxOf CX0 P w K mg base N qual (defScope st) f cdv A outer s H E).nox (defBody st) t/\t { nx:=fun _ H'=>Q .non H',rt:=Q } (start N vs) H):FnOk P w K mg base CX0 (k+1) f fd ps sp:=by
 obtain⟨oc,od,kV,doc,pm,an,cdv,ct,osl,rfl,lk,hcd⟩:=F.ex
 refine fn_of lk hcd S len fun A outer s H vs Q E hr hsp=>?_
 obtain⟨t,h,q⟩:=hbody cdv A outer s H vs Q E hr hsp
 exact⟨t,h.nox,q⟩
theorem Fun.binds {x qual:Str} {st:Stmt} {f:Addr} {fd:FuncData} {ps:List Str} (F:Fun K x qual st f fd)
  (h:∀ (kV doc pm:Value) (an:Option Addr) (cdv ct:Value) (us:List Value),us.length=ps.length->bindArgs (PySem.W.fnOf x qual (defArgs st) (defBody st) (defScope st) .none kV doc pm an cdv ct) ⟨us,[]⟩=pure (ps.zip us)):Binds K fd ps []:=by
 obtain⟨oc,od,kV,doc,pm,an,cdv,ct,osl,rfl,lk,hcd⟩:=F.ex
 exact .all (h kV doc pm an cdv ct)
theorem fun_mk {x qual:Str} {st:Stmt} {f:Addr} {oc:Value} {od an:Option Addr} {osl:Array (Option Value)} {kV doc pm cdv ct:Value} (l:K.lookup f=some ⟨oc,od,.func (PySem.W.fnOf x qual (defArgs st) (defBody st) (defScope st) .none kV doc pm an cdv ct),osl⟩)
  (c:PySem.W.codeIn K cdv qual=true) (k:PySem.W.keepIn K (.ref f)=true):Fun K x qual st f (PySem.W.fnOf x qual (defArgs st) (defBody st) (defScope st) .none kV doc pm an cdv ct):=⟨⟨oc,od,kV,doc,pm,an,cdv,ct,osl,rfl,l,c⟩,k⟩
end
theorem hu_of {A:Around} {k:Nat} (hr:Room k A):A.units+1<cLine:=Nat.lt_of_le_of_lt (Nat.add_le_add_left (by decide:1<=64) _) hr.units
theorem small1000 {n:Nat} (h:n<=1000):n<sizeLine:=Nat.lt_of_le_of_lt h (by decide)
section
variable {X:Cx}
theorem pv (i:Nat) {x:Str} {pos:Pos} (hN:X.N[i]?=some x:=by rfl) (hv:Vis X.env.scope x:=by first | exact Or.inl rfl | exact Or.inr (Or.inl rfl) | exact Or.inr (Or.inr rfl)) (hd:(x == ("__debug__" : Str))=false:=by decide)
  (hcd:(x == ("__classdict__" : Str))=false:=by decide):PE X (.Name x pos) (tVar i):=pe_var hN hv hd hcd
end
theorem iteF {A B:Prop} (h:B):if false=true then A else B:=by
 rw[if_neg Bool.false_ne_true]
 exact h
theorem iteT {A B:Prop} (h:A):if true=true then A else B:=by
 rw[if_pos rfl]
 exact h
theorem ite2 {c A B:Prop} [Decidable c] (h1:c->A) (h2:¬ c->B):if c then A else B:=by
 by_cases h:c
 ·rw[if_pos h]
  exact h1 h
 ·rw[if_neg h]
  exact h2 h
def Same (H H':Hp):Prop:=∀ b o,H b=some o->H' b=some o
theorem Same.refl (H:Hp):Same H H:=fun _ _ h=>h
theorem Same.trans {H H1 H2:Hp} (a:Same H H1) (b:Same H1 H2):Same H H2:=fun c o h=>b c o (a c o h)
theorem Same.free {H H':Hp} (e:Same H H') {l:Addr} (h:H' l=Option.none):H l=Option.none:=by
 cases q:H l with
 | none=>rfl
 | some o=>
  rw[e l o q] at h
  cases h
theorem Same.seq {K:PySem.W.Frag} {H H':Hp} {a:Addr} {xs:List V} (e:Same H H') (h:SqL K H a xs):SqL K H' a xs:=by
 rcases h with (h | ⟨o,h⟩) | h
 ·exact .inl (.inl (e _ _ h))
 ·exact .inl (.inr ⟨o,e _ _ h⟩)
 ·exact .inr h
section
variable {X:Cx}
end
section
variable {κ:Type} [DecidableEq κ]
end
end L2
namespace L3
open PySem PySem.Spec PyProof.Rows L2
section
variable {X:Cx} {pins:List (Addr×Obj)} {σ:L2.St} {H:Hp} {s:Shared}
theorem Inv.adopt {D:Addr} {o:HO} (I:Inv X pins σ H s) (hf:FpOk X pins H D) (ho:∃ ob,s.heap.get? D=some ob) (new:ObjOk X.prog X.w (upd H D o) s.heap D o):Inv X pins σ (upd H D o) s:=by
 obtain⟨f0,f1,f2,f3,f4,f5⟩:=hf
 have nD:∀ b u,H b=some u->b≠D:=fun b u e z=>by rw[z,f0] at e; cases e
 have J:=I.step (g':=s.gens) (t':=s.toks) (d':=s.drawn) (h':=s.heap) (H':=upd H D o) (ch:=[D]) (fun b hb=>by
   have e:b=D:=by simpa using hb
   subst e
   exact⟨f3,f1,f4,f5⟩) (fun b o _ _ _ e _=>e) (fun b o _ _ _ e _=>⟨o.slots,e⟩) (fun b u hc e n=>by
   have:b≠D:=fun z=>hc (by simp[z])
   rw[upd_ne this]; exact n) (fun b u _ e=>⟨u,e⟩) (fun b xs e=>by rw[upd_ne (nD b _ e)]; exact e) (fun b ob u e=>by rw[upd_ne (nD b _ e)]; exact e)
   (fun b ps e=>⟨#[],by rw[upd_ne (nD b _ e),e]; simp⟩) (fun m hm=>hm) (fun b u e=>?_) I.bare
 ·exact J
 ·by_cases hb:b=D
  ·subst hb; rw[upd_same] at e; cases e; exact new
  ·rw[upd_ne hb] at e
   exact (I.hok b u e).stay (fun c v _ q=>q) (fun c q=>by rw[upd_ne (nD c _ q)]; exact q) fun c xs q=>by rw[upd_ne (nD c _ q)]; exact q
theorem Inv.same {h':Heap} {C:Addr} (I:Inv X pins σ H s) (hf:FpOk X pins H C) (hs:Heap.SameBut C s.heap h'):Inv X pins σ H { s with heap:=h' }:=by
 obtain⟨f0,f1,f2,f3,f4,f5⟩:=hf
 exact I.turned (t':=s.toks) (fun b o hb e=>(hs.2 b hb).trans e) f0 f1 f3 f4 f5
end
def closeL (cells:List (Str×Addr)):List (Str×NameKind)->List (Str×Addr)->List (Str×Addr)
 | [],acc=>acc
 | (n,k)::r,acc=>if k == .free then closeL cells r ((n,(cells.lookup n).getD 0)::acc) else closeL cells r acc
theorem closureFor_eq {scope:Scope} {env:Env} (h:∀ x∈scope.names,x.2=.free->(env.cells.lookup x.1).isSome=true):closureFor scope env=pure (closeL env.cells scope.names []):=by
 have go:∀ (l:List (Str×NameKind)) (acc:List (Str×Addr)),(∀ x∈l,x.2=.free->(env.cells.lookup x.1).isSome=true) ->
   (forIn l acc fun (x:Str×NameKind) (cs:List (Str×Addr))=>(do
    if x.2 == .free then
     let c ← cellOf env x.1
     pure (ForInStep.yield ((x.1,c)::cs))
    else pure (ForInStep.yield cs):Sem _))=pure (closeL env.cells l acc):=by
  intro l
  induction l with
  | nil=>intro acc _; rfl
  | cons x r ih=>
   intro acc hl
   obtain⟨n,k⟩:=x
   rw[List.forIn_cons]
   have hr:∀ x∈r,x.2=.free->(env.cells.lookup x.1).isSome=true:=fun x hx=>hl x (List.mem_cons_of_mem _ hx)
   unfold closeL
   by_cases hk:(k == NameKind.free)=true
   ·have e:=hl (n,k) List.mem_cons_self (by simpa using hk)
    obtain⟨c,hc⟩:=Option.isSome_iff_exists.mp e
    have hc':env.cells.lookup n=some c:=hc
    simp only[hk,if_true]
    have:cellOf env n=pure c:=by unfold cellOf; rw[hc']
    rw[this,hc']
    simp only[pure_bind,Option.getD_some]
    exact ih _ hr
   ·simp only[hk,if_false,Bool.false_eq_true]
    simp only[pure_bind]
    exact ih _ hr
 have:=go scope.names [] h
 unfold closureFor
 simp only[] at this ⊢
 first
  | (rw[this]; rfl)
  | (simp only[bind_pure]; exact this)
  | exact this
theorem closeL_mem {cells:List (Str×Addr)}:∀ {l:List (Str×NameKind)} {acc:List (Str×Addr)} {x:Str} {c:Addr},(x,c)∈closeL cells l acc->(x,c)∈acc\/((x,NameKind.free)∈l/\c=(cells.lookup x).getD 0)
 | [],_,_,_,h=>.inl h
 | (n,k)::r,acc,x,c,h=>by
  unfold closeL at h
  by_cases hk:(k == NameKind.free)=true
  ·rw[if_pos hk] at h
   rcases closeL_mem h with q | ⟨q1,q2⟩
   ·rcases List.mem_cons.mp q with e | q
    ·cases e
     have:k=.free:=by simpa using hk
     subst this
     exact .inr ⟨List.mem_cons_self,rfl⟩
    ·exact .inl q
   ·exact .inr ⟨List.mem_cons_of_mem _ q1,q2⟩
  ·rw[if_neg hk] at h
   rcases closeL_mem h with q | ⟨q1,q2⟩
   ·exact .inl q
   ·exact .inr ⟨List.mem_cons_of_mem _ q1,q2⟩
theorem closeL_acc {cells:List (Str×Addr)}:∀ {l:List (Str×NameKind)} {acc:List (Str×Addr)} {x:Str×Addr},x∈acc->x∈closeL cells l acc
 | [],_,_,h=>h
 | (n,k)::r,acc,x,h=>by
  unfold closeL
  split
  ·exact closeL_acc (List.mem_cons_of_mem _ h)
  ·exact closeL_acc h
theorem closeL_has {cells:List (Str×Addr)}:∀ {l:List (Str×NameKind)} {acc:List (Str×Addr)} {x:Str},(x,NameKind.free)∈l->(x,(cells.lookup x).getD 0)∈closeL cells l acc
 | (n,k)::r,acc,x,h=>by
  unfold closeL
  rcases List.mem_cons.mp h with e | h
  ·cases e
   rw[if_pos (by rfl)]
   exact closeL_acc List.mem_cons_self
  ·split
   ·exact closeL_has h
   ·exact closeL_has h
theorem cellsFrom_mem:∀ {l:List (Str×NameKind)} {n:Nat} {acc:List (Str×Addr)} {x:Str} {c:Addr},(x,c)∈cellsFrom n l acc->(x,c)∈acc\/((x,NameKind.cell)∈l/\n<=c)
 | [],_,_,_,_,h=>.inl h
 | (y,k)::r,n,acc,x,c,h=>by
  unfold cellsFrom at h
  by_cases hk:(k == NameKind.cell)=true
  ·rw[if_pos hk] at h
   rcases cellsFrom_mem h with q | ⟨q1,q2⟩
   ·rcases List.mem_cons.mp q with e | q
    ·cases e
     have:k=.cell:=by simpa using hk
     subst this
     exact .inr ⟨List.mem_cons_self,Nat.le_refl _⟩
    ·exact .inl q
   ·exact .inr ⟨List.mem_cons_of_mem _ q1,Nat.le_of_succ_le q2⟩
  ·rw[if_neg hk] at h
   rcases cellsFrom_mem h with q | ⟨q1,q2⟩
   ·exact .inl q
   ·exact .inr ⟨List.mem_cons_of_mem _ q1,q2⟩
theorem lookup_of_mem {α:Type}:∀ {l:List (Str×α)} {x:Str} {c:α},(l.map (·.1)).Nodup->(x,c)∈l->l.lookup x=some c
 | (y,d)::r,x,c,nd,h=>by
  rw[List.map_cons,List.nodup_cons] at nd
  rw[List.lookup_cons]
  rcases List.mem_cons.mp h with e | h
  ·cases e; simp
  ·have:x≠y:=fun e=>nd.1 (by rw[<-e]; exact List.mem_map.mpr ⟨(x,c),h,rfl⟩)
   have hb:(x == y)=false:=beq_eq_false_iff_ne.mpr this
   rw[hb]
   exact lookup_of_mem nd.2 h
theorem cellsFrom_pair:∀ {l:List (Str×NameKind)} {n:Nat} {acc:List (Str×Addr)},(acc.Pairwise fun x y=>x.2≠y.2)->(∀ x∈acc,x.2<n)->((cellsFrom n l acc).Pairwise fun x y=>x.2≠y.2)
 | [],_,_,h,_=>h
 | (y,k)::r,n,acc,h,hl=>by
  unfold cellsFrom
  split
  ·refine cellsFrom_pair (List.pairwise_cons.mpr ⟨fun z hz e=>?_,h⟩) (fun z hz=>?_)
   ·have h9:=hl z hz
    have e':n=z.2:=e
    rw[<-e'] at h9
    exact Nat.lt_irrefl _ h9
   ·rcases List.mem_cons.mp hz with e | hz
    ·subst e; exact Nat.lt_succ_self _
    ·exact Nat.lt_succ_of_lt (hl z hz)
  ·exact cellsFrom_pair h hl
theorem closeL_pair {cells:List (Str×Addr)}:∀ {l:List (Str×NameKind)} {acc:List (Str×Addr)},(acc.Pairwise fun x y=>x.2≠y.2)->(l.map (·.1)).Nodup->(∀ x∈acc,∀ y∈l,y.2=.free->x.2≠(cells.lookup y.1).getD 0) ->
  (∀ x∈l,∀ y∈l,x.2=.free->y.2=.free->(cells.lookup x.1).getD 0=(cells.lookup y.1).getD 0->x.1=y.1)->((closeL cells l acc).Pairwise fun x y=>x.2≠y.2)
 | [],_,h,_,_,_=>h
 | (n,k)::r,acc,h,nd,h1,h2=>by
  unfold closeL
  rw[List.map_cons,List.nodup_cons] at nd
  by_cases hk:(k == NameKind.free)=true
  ·rw[if_pos hk]
   have hk':k=.free:=by simpa using hk
   refine closeL_pair (List.pairwise_cons.mpr ⟨fun z hz e=>h1 z hz (n,k) List.mem_cons_self hk' e.symm,h⟩) nd.2 (fun z hz y hy hf=>?_) (fun x hx y hy=>h2 x (List.mem_cons_of_mem _ hx) y (List.mem_cons_of_mem _ hy))
   rcases List.mem_cons.mp hz with e | hz
   ·subst e
    intro e
    have:=h2 (n,k) List.mem_cons_self y (List.mem_cons_of_mem _ hy) hk' hf e
    exact nd.1 (List.mem_map.mpr ⟨y,hy,this.symm⟩)
   ·exact h1 z hz y (List.mem_cons_of_mem _ hy) hf
  ·rw[if_neg hk]
   exact closeL_pair h nd.2 (fun z hz y hy=>h1 z hz y (List.mem_cons_of_mem _ hy)) (fun x hx y hy=>h2 x (List.mem_cons_of_mem _ hx) y (List.mem_cons_of_mem _ hy))
end L3
namespace L3
open PySem PySem.Spec PyProof.Rows L2
def compEnvR (scope:Scope) (C:Addr) (env:Env):Env:=
 { newEnv scope C env.globals (cellsFrom (C+1) scope.names (closeL env.cells scope.names [])) env.qual none .none (some env) builtinsNs with scope:=relabel scope env }
theorem pushCells_new:∀ (l:List (Str×NameKind)) (h:Heap) (acc:List (Str×Addr)) (x:Str) (c:Addr),(x,c)∈cellsFrom h.objs.size l acc->(x,c)∈acc\/((pushCells h l).IsCell c none/\h.objs.size<=c)
 | [],_,_,_,_,m=>.inl m
 | (y,k)::r,h,acc,x,c,m=>by
  unfold cellsFrom at m
  unfold pushCells
  by_cases hk:(k == NameKind.cell)=true
  ·rw[if_pos hk] at m
   rw[if_pos hk]
   have e:h.objs.size+1=(h.push { cls:=.type "cell",data:=.cell none }).objs.size:=(Heap.size_push ..).symm
   rw[e] at m
   rcases pushCells_new r _ _ x c m with q | ⟨q1,q2⟩
   ·rcases List.mem_cons.mp q with e2 | q
    ·cases e2
     exact .inr ⟨⟨_,pushCells_keeps r _ _ _ (Heap.get?_push_size h rfl),rfl⟩,Nat.le_refl _⟩
    ·exact .inl q
   ·exact .inr ⟨q1,by rw[<-e] at q2; omega⟩
  ·rw[if_neg hk] at m
   rw[if_neg hk]
   exact pushCells_new r h acc x c m
theorem wpAny_newEnvComp {M:Model} {A:Around} {E:Value->Shared->Prop} {s:Shared} {scope:Scope} {globals:Addr} {cl:List (Str×Addr)} {qual:Str} {env:Env} {Q:Env->Shared->Prop}
  (hQ:Q (newEnv scope s.heap.objs.size globals (cellsFrom (s.heap.objs.size+1) scope.names cl) qual none .none (some env) builtinsNs) { s with heap:=pushCells (s.heap.push { cls:=.type "dict",data:=.dict #[] }) scope.names }) :
  wpAny M A (newFunctionEnv scope globals cl [] qual none .none (some env)) Q E s:=by
 simp only[newFunctionEnv,Option.isSome_some,if_true]
 refine wpAny_bind (wpAny_alloc ?_)
 refine wpAny_bind (wpAny_layCells _ (fun name kind cells=>by cases hkc:kind == NameKind.cell <;> simp[hkc]) _ _ _ _ ?_)
 rw[show ({ s with heap:=s.heap.push { cls:=.type "dict",data:=.dict #[] } }:Shared).heap.objs.size=s.heap.objs.size+1 from Heap.size_push ..]
 refine wpAny_bind ?_
 rw[List.forIn_nil]
 exact wpAny_pure (wpAny_pure hQ)
structure CompScope (o:Scope) (N:List Str) (sc:Scope) (N':List Str) (src:List (Option Nat)):Prop where
 kind:sc.kind=.function
 nd:(sc.names.map (·.1)).Nodup
 nd':N'.Nodup
 fr:(sc.names.all fun x=>x.2 != .free||(o.names.lookup x.1 == some .cell||o.names.lookup x.1 == some .free))=true
 len:src.length=N'.length
 src:((N'.zip src).all fun p=>match p.2 with | none=>true | some j=>N[j]? == some p.1&&sc.names.lookup p.1 == some .free)=true
def takeSt (src:List (Option Nat)) (σ:L2.St):L2.St:=src.map fun o=>o.bind fun j=>(σ[j]?).join
def cxComp (X:Cx) (N':List Str) (scope:Scope) (C:Addr) (s₀:Shared) (H₀:Hp) (ex:List Addr):Cx where
 prog:=X.prog
 w:=X.w
 K:=X.K
 mg:=X.mg
 base:=X.base
 A:=X.A
 N:=N'
 s₀:=s₀
 H₀:=H₀
 env:=compEnvR scope C X.env
 outer:=X.stack
 stack:=X.stack
 ex:=ex
 fn:=fun x=>scope.names.lookup x == some .cell
 calm:=X.calm
 pn:=[]
 xe:=fun _ _=>False
theorem lookup_relabel {env:Env} (x:Str):∀ (names:List (Str×NameKind)),
  (names.map fun (n,k)=>if (k == NameKind.free&&env.scope.kind == .function&&env.kindOf n == some .cell) then (n,NameKind.cell) else (n,k)).lookup x
   = (names.lookup x).map fun k=>if (k == NameKind.free&&env.scope.kind == .function&&env.kindOf x == some .cell)=true then NameKind.cell else k
 | []=>rfl
 | (n,k)::r=>by
  have ih:=lookup_relabel (env:=env) x r
  rw[List.map_cons]
  by_cases hx:x=n
  ·subst hx
   by_cases hc:(k == NameKind.free&&env.scope.kind == .function&&env.kindOf x == some .cell)=true
   ·simp only[hc,if_true,List.lookup_cons,beq_self_eq_true,Option.map_some]
   ·simp only[hc,if_false,List.lookup_cons,beq_self_eq_true,Option.map_some,Bool.false_eq_true]
  ·have hb:(x == n)=false:=beq_eq_false_iff_ne.mpr hx
   by_cases hc:(k == NameKind.free&&env.scope.kind == .function&&env.kindOf n == some .cell)=true
   ·dsimp only; rw[if_pos hc,List.lookup_cons,List.lookup_cons,hb]; exact ih
   ·dsimp only; rw[if_neg hc,List.lookup_cons,List.lookup_cons,hb]; exact ih
theorem kind_back {scope:Scope} {env:Env} {x:Str} (h:(relabel scope env).names.lookup x=some .cell\/(relabel scope env).names.lookup x=some .free) :
  scope.names.lookup x=some .cell\/scope.names.lookup x=some .free:=by
 have e:=lookup_relabel (env:=env) x scope.names
 have e':(relabel scope env).names.lookup x=(scope.names.lookup x).map fun k=>if (k == NameKind.free&&env.scope.kind == .function&&env.kindOf x == some .cell)=true then NameKind.cell else k:=e
 rw[e'] at h
 cases q:scope.names.lookup x with
 | none=>rw[q] at h; rcases h with h | h <;> cases h
 | some k=>
  rw[q,Option.map_some] at h
  by_cases hk:k=.free
  ·rw[hk]; exact .inr rfl
  ·have:(k == NameKind.free)=false:=by simpa using hk
   rw[this,Bool.false_and,Bool.false_and] at h
   simp only[Bool.false_eq_true,if_false] at h
   rcases h with h | h
   ·exact .inl h
   ·exact .inr h
theorem kind_free {scope:Scope} {env:Env} {x:Str} (h:scope.names.lookup x=some .free):(relabel scope env).names.lookup x=some .cell\/(relabel scope env).names.lookup x=some .free:=by
 have e':(relabel scope env).names.lookup x=(scope.names.lookup x).map fun k=>if (k == NameKind.free&&env.scope.kind == .function&&env.kindOf x == some .cell)=true then NameKind.cell else k:=lookup_relabel (env:=env) x scope.names
 rw[e',h,Option.map_some]
 by_cases hc:(NameKind.free == NameKind.free&&env.scope.kind == .function&&env.kindOf x == some .cell)=true
 ·rw[if_pos hc]; exact .inl rfl
 ·rw[if_neg hc]; exact .inr rfl
theorem isSome_of_mem {α:Type}:∀ {l:List (Str×α)} {x:Str} {c:α},(x,c)∈l->(l.lookup x).isSome=true
 | (y,d)::r,x,c,h=>by
  rw[List.lookup_cons]
  cases hb:x == y with
  | true=>rfl
  | false=>
   rcases List.mem_cons.mp h with e | h
   ·cases e; simp at hb
   ·exact isSome_of_mem h
section
variable {X:Cx} {pins:List (Addr×Obj)} {σ:L2.St} {H:Hp} {s:Shared} {o sc:Scope} {N N':List Str} {src:List (Option Nat)}
theorem CompScope.frOf (CS:CompScope o N sc N' src) {x:Str} (h:(x,NameKind.free)∈sc.names):o.names.lookup x=some .cell\/o.names.lookup x=some .free:=by
 have q:=List.all_eq_true.mp CS.fr _ h
 have e0:((x,NameKind.free).2 != NameKind.free)=false:=by show (NameKind.free != NameKind.free)=false; decide
 rw[e0,Bool.false_or,Bool.or_eq_true] at q
 rcases q with q | q
 ·exact .inl (beq_iff_eq.mp q)
 ·exact .inr (beq_iff_eq.mp q)
theorem CompScope.cellOf (CS:CompScope o N sc N' src) (I:Inv X pins σ H s) (ho:X.env.scope=o) {x:Str} (h:(x,NameKind.free)∈sc.names):∃ c,X.env.cells.lookup x=some c:=by
 have q:=CS.frOf h
 rw[<-ho] at q
 exact I.ok.has x q
theorem CompScope.cells (CS:CompScope o N sc N' src) (I:Inv X pins σ H s) (ho:X.env.scope=o) {x:Str} {c:Addr} (h:(compEnvR sc s.heap.objs.size X.env).cells.lookup x=some c) :
  ((x,NameKind.free)∈sc.names/\X.env.cells.lookup x=some c)\/((x,NameKind.cell)∈sc.names/\s.heap.objs.size+1<=c):=by
 have m:=mem_of_lookup (show (cellsFrom (s.heap.objs.size+1) sc.names (closeL X.env.cells sc.names [])).lookup x=some c from h)
 rcases cellsFrom_mem m with q | q
 ·rcases closeL_mem q with q | ⟨q1,q2⟩
  ·cases q
  ·obtain⟨c',hc'⟩:=CS.cellOf I ho q1
   rw[hc',Option.getD_some] at q2
   subst q2
   exact .inl ⟨q1,hc'⟩
 ·exact .inr q
theorem Inv.comp (I:Inv X pins σ H s) (hcalm:X.calm=true) (CS:CompScope o N sc N' src) (ho:X.env.scope=o) (hN:X.N=N) {ex:List Addr} (hf:∀ b∈ex,FpOk X pins H b) (hlt:∀ b∈ex,b<s.heap.objs.size) :
  Inv (cxComp X N' sc s.heap.objs.size s H ex) [] (takeSt src σ) H { s with heap:=pushCells (s.heap.push { cls:=.type "dict",data:=.dict #[] }) sc.names }:=by
 have keep:∀ b u,s.heap.get? b=some u->(pushCells (s.heap.push { cls:=.type "dict",data:=.dict #[] }) sc.names).get? b=some u:=fun b u e=>pushCells_keeps _ _ b u (Heap.get?_push_of_some _ e)
 have cellLt:∀ x c,X.env.cells.lookup x=some c->c<s.heap.objs.size:=fun x c e=>by
  obtain⟨v,q⟩:=I.cell x c e
  exact q.lt
 have newC:∀ x c,(x,NameKind.cell)∈sc.names->(compEnvR sc s.heap.objs.size X.env).cells.lookup x=some c->s.heap.objs.size+1<=c->(pushCells (s.heap.push { cls:=.type "dict",data:=.dict #[] }) sc.names).IsCell c none:=fun x c _ e hc=>by
  have m:=mem_of_lookup (show (cellsFrom (s.heap.objs.size+1) sc.names (closeL X.env.cells sc.names [])).lookup x=some c from e)
  have e1:s.heap.objs.size+1=(s.heap.push { cls:=.type "dict",data:=.dict #[] }).objs.size:=(Heap.size_push ..).symm
  rw[e1] at m
  rcases pushCells_new _ _ _ x c m with q | q
  ·rcases closeL_mem q with q | ⟨q1,q2⟩
   ·cases q
   ·obtain⟨c',hc'⟩:=CS.cellOf I ho q1
    rw[hc',Option.getD_some] at q2
    have h9:=cellLt x c' hc'
    rw[<-q2] at h9
    exact absurd (Nat.lt_trans h9 (Nat.lt_of_succ_le hc)) (Nat.lt_irrefl _)
  ·exact q.1
 have pr:(cellsFrom (s.heap.objs.size+1) sc.names (closeL X.env.cells sc.names [])).Pairwise fun x y=>x.2≠y.2:=by
  refine cellsFrom_pair (closeL_pair List.Pairwise.nil CS.nd (fun x hx=>nomatch hx) fun x hx y hy fx fy e=>?_) (fun x hx=>?_)
  ·obtain⟨nx,kx⟩:=x
   obtain⟨ny,ky⟩:=y
   cases fx
   cases fy
   obtain⟨cx,hcx⟩:=CS.cellOf I ho hx
   obtain⟨cy,hcy⟩:=CS.cellOf I ho hy
   have e':(X.env.cells.lookup nx).getD 0=(X.env.cells.lookup ny).getD 0:=e
   rw[hcx,hcy,Option.getD_some,Option.getD_some] at e'
   subst e'
   exact I.ok.inj _ _ _ hcx hcy
  ·obtain⟨nx,c⟩:=x
   rcases closeL_mem hx with q | ⟨q1,q2⟩
   ·cases q
   ·obtain⟨c',hc'⟩:=CS.cellOf I ho q1
    rw[hc',Option.getD_some] at q2
    subst q2
    exact Nat.lt_succ_of_lt (cellLt _ _ hc')
 have hfs:∀ b∈ex,b∉frs X.stack:=fun b hb z=>by
  obtain⟨_,f1,f2,_⟩:=hf b hb
  rcases List.mem_cons.mp (I.stkSub b z) with e | e
  ·exact f1 e
  ·exact f2 e
 refine⟨⟨I.ok.mod,CS.kind,I.ok.glob,I.ok.blt,Nat.le_refl _,fun x y c h1 h2=>?_,fun x hx=>?_,fun x c hfn hc=>?_,I.ok.hd,I.ok.frames,.inl rfl,fun b hb=>⟨?_,fun x c e z=>?_⟩,I.bs,Nat.le_trans I.ok.bsz I.sz,fun b u e hb=>?_,hfs,I.stack,I.stkFree⟩,
  rfl,I.bare,Un.kept keep,⟨fun _=>none,(Heap.Ns.new s.heap (.type "dict")).keeps (pushCells_keeps _ _),fun i x v e1 e2 e3=>?_⟩,fun x c e=>?_,I.hok.fresh (Nat.le_refl _),fun x c e=>?_,fun p hp=>absurd (show p∈([]:List (Addr×Obj)) from hp) (by simp),I.hok.kept keep,?_⟩
 ·exact name_of_addr pr (mem_of_lookup h1) (mem_of_lookup h2)
 ·have hx':(relabel sc X.env).names.lookup x=some .cell\/(relabel sc X.env).names.lookup x=some .free:=hx
  refine Option.isSome_iff_exists.mp (PySem.W.cellsFrom_some _ _ _ ?_)
  rcases kind_back hx' with q | q
  ·exact .inl q
  ·exact .inr (isSome_of_mem (closeL_has (mem_of_lookup q)))
 ·have hfn':sc.names.lookup x=some .cell:=beq_iff_eq.mp hfn
  rcases CS.cells I ho hc with ⟨q,_⟩ | ⟨_,q⟩
  ·have:=lookup_of_mem CS.nd q
   rw[hfn'] at this; cases this
  ·exact Nat.le_of_succ_le q
 ·exact Nat.ne_of_lt (hlt b hb)
 ·rcases CS.cells I ho e with ⟨_,q⟩ | ⟨_,q⟩
  ·exact (hf b hb).2.2.2.2.1 x c q z
  ·rw[z] at q
   exact absurd (Nat.lt_trans (Nat.lt_of_succ_le q) (hlt b hb)) (Nat.lt_irrefl _)
 ·obtain⟨_,_,_,f3,_⟩:=hf b hb
  rcases f3 with z | z
  ·exact I.ok.noex b u e z
  ·exact absurd (Nat.lt_of_lt_of_le (Heap.lt_size (I.ok.bs b u e).1) z) (Nat.lt_irrefl _)
 ·-- a captured name
  unfold takeSt at e2
  rw[List.getElem?_map] at e2
  obtain⟨oj,hoj,e2⟩:=Option.map_eq_some_iff.mp e2
  obtain⟨j,rfl,e4⟩:=Option.bind_eq_some_iff.mp e2
  have e2':σ[j]?=some (some v):=by
   cases q:σ[j]? with
   | none=>rw[q] at e4; cases e4
   | some w=>rw[q] at e4; exact congrArg some e4
  have hm:(x,some j)∈N'.zip src:=by
   refine List.mem_of_getElem? (i:=i) ?_
   rw[List.getElem?_zip_eq_some]
   exact⟨e1,hoj⟩
  have q:=List.all_eq_true.mp CS.src _ hm
  have q':(N[j]? == some x&&sc.names.lookup x == some .free)=true:=q
  rw[Bool.and_eq_true] at q'
  have h1:N[j]?=some x:=beq_iff_eq.mp q'.1
  have h2:sc.names.lookup x=some .free:=beq_iff_eq.mp q'.2
  have h3:=CS.frOf (mem_of_lookup h2)
  rw[<-ho] at h3
  obtain⟨m,hn,hl⟩:=I.loc
  obtain⟨u,r,l⟩:=hl j x v (by rw[hN]; exact h1) e2' (.inr h3)
  refine⟨u,r,?_⟩
  rcases l with ⟨k,_⟩ | ⟨_,c,hc,hcell⟩
  ·have k':X.env.scope.names.lookup x=some .local:=k
   rcases h3 with z | z <;> rw[k'] at z <;> cases z
  ·have hsome:=PySem.W.cellsFrom_some (x:=x) sc.names (s.heap.objs.size+1) (closeL X.env.cells sc.names []) (.inr (isSome_of_mem (closeL_has (mem_of_lookup h2))))
   obtain⟨c',hc'⟩:=Option.isSome_iff_exists.mp hsome
   rcases CS.cells I ho hc' with ⟨_,z⟩ | ⟨z,_⟩
   ·rw[hc] at z; cases z
    exact .inr ⟨kind_free h2,c,hc',hcell.keeps keep⟩
   ·have:=lookup_of_mem CS.nd z
    rw[h2] at this; cases this
 ·rcases CS.cells I ho e with ⟨_,q⟩ | ⟨q,q2⟩
  ·obtain⟨v,z⟩:=I.cell x c q
   exact⟨v,z.keeps keep⟩
  ·exact⟨none,newC x c q e q2⟩
 ·rcases CS.cells I ho e with ⟨_,q⟩ | ⟨_,q⟩
  ·exact I.freeC x c q
  ·exact I.hok.fresh (Nat.le_of_succ_le q)
 ·unfold takeSt
  rw[List.length_map]
  exact CS.len
end
end L3
namespace L3
open PySem PySem.Spec PyProof.Rows L2
theorem codeAny_compLoop_any {prog:Program} {w:World} {A:Around} {R:Result->Shared->Prop} {s:Shared} {elt target iter:Expr} {ifs:List Expr} {scope:Scope} {pos:Pos} {it acc:Value} {env:Env} (I:Nat->Shared->Prop)
  (turn:∀ n s,I n s->wpAny (model prog w) A (pyNext it) (fun r s₁=>match r with
   | none=>R (.ok .next) s₁
   | some v=>wpAny (model prog w) A (letOwnedTupleGo target it v) (fun _ s₁'=>wpAny (model prog w) A (assign target env v) (fun _ s₂=>
     wpAny (model prog w) A (forIn ifs true fun c r=>if r=true then do let ok ← isTrue c env (eval c env); pure (ForInStep.yield ok) else pure (ForInStep.yield r)) (fun ok s₃=>
      if ok=true then wpAny (model prog w) A (eval elt env) (fun x s₄=>
       wpAny (model prog w) A (call (.builtin "list.append") [acc,x]) (fun _ s₅=>∃ m,m<n/\I m s₅) (fun _ _=>False) s₄) (fun _ _=>False) s₃
      else ∃ m,m<n/\I m s₃) (fun _ _=>False) s₂) (fun _ _=>False) s₁') (fun _ _=>False) s₁) (fun _ _=>False) s)
  (n:Nat) (h:I n s) :
  codeAny (model prog w) A (.compLoop (.ListComp elt [⟨target,iter,ifs,0⟩] scope pos) 0 it acc env) R s:=by
 refine codeAny_loop rfl I (fun n s hI=>?_) n h
 show wpAny _ A ((compTurn (.ListComp elt [⟨target,iter,ifs,0⟩] scope pos) 0 it acc env).onRaise (fun x=>do noteFrame x env; theTreesLotGoes x)) _ _ s
 refine wpAny_noted ?_
 rw[compTurn_list]
 refine wpAny_bind (wpAny_standAt (wpAny_bind (wpAny_mono (turn n s hI) (fun r s₁ h₁=>?_) fun _ _ h'=>h'.elim)))
 cases r with
 | none=>exact wpAny_pure h₁
 | some v=>
  refine wpAny_bind (wpAny_mono h₁ (fun _ s₁' h₁'=>?_) fun _ _ h'=>h'.elim)
  refine wpAny_bind (wpAny_mono h₁' (fun _ s₂ h₂=>wpAny_bind (wpAny_mono h₂ (fun ok s₃ h₃=>?_) fun _ _ h'=>h'.elim)) fun _ _ h'=>h'.elim)
  cases ok with
  | false=>exact wpAny_pure ⟨rfl,h₃⟩
  | true=>
   exact wpAny_bind (wpAny_bind (wpAny_mono h₃ (fun x s₄ h₄=>wpAny_bind (wpAny_mono h₄ (fun _ s₅ h₅=>wpAny_pure (wpAny_pure ⟨rfl,h₅⟩)) fun _ _ h'=>h'.elim)) fun _ _ h'=>h'.elim))
def PIfs (X:Cx) (ifs:List Expr) (t:TT):Prop:=
 ∀ (pins:List (Addr×Obj)) (s:Shared) (σ:L2.St) (H:Hp) (Q:Bool->Hp->Prop),Inv X pins σ H s->t σ H Q ->
  wpAny (model X.prog X.w) X.A (forIn ifs true fun c r=>if r=true then do let ok ← isTrue c X.env (eval c X.env); pure (ForInStep.yield ok) else pure (ForInStep.yield r)) (TP X pins σ Q) X.xe s
def tYes:TT:=fun _ H Q=>Q true H
theorem gyes {i:Nat} {v:V} {σ:L2.St} {H:Hp} {te:TE} {N:L2.St->V->Hp->Prop} {M:L2.St->Hp->Prop} (h:te (σ.set i (some v)) H fun y H4=>N (σ.set i (some v)) y H4) :
  gName i v σ H fun σ2 H2=>tYes σ2 H2 fun b H3=>if b=true then te σ2 H3 fun y H4=>N σ2 y H4 else M σ2 H3:=h
theorem pifs_nil {X:Cx}:PIfs X [] tYes:=fun pins s σ H Q I h=>wpAny_tests_nil ⟨H,I,h⟩
def tTurns (J:It) (g:TG) (tt:TT) (te:TE) (σ0:L2.St) (H0:Hp) (Q:List V->Hp->Prop):Prop:=
 ∃ W:Nat->Nat->L2.St->List V->Hp->Prop,(∃ m,W 0 m σ0 [] H0)/\∀ i m σ ys H,W i m σ ys H ->
  (J.stop i H/\Q ys H)\/(J.go i H/\ys.length<sizeLine/\∃ N:L2.St->List V->Hp->Prop,(∀ σ' ys' H',N σ' ys' H'->∃ m',m'<m/\W (i+1) m' σ' ys' H') /\
   ∀ x H',J.yld i H x H'->g x σ H' fun σ2 H2=>tt σ2 H2 fun b H3=>if b=true then te σ2 H3 fun y H4=>N σ2 (ys++[y]) H4 else N σ2 ys H3)
def tComp (wi:TI) (g:TG) (tt:TT) (te:TE) (src:List (Option Nat)):TE:=fun σ H Q=>wi σ H fun J H1=>tTurns J g tt te (takeSt src σ) H1 fun ys H2=>∀ p,H2 p=none->Q (.ref p) (upd H2 p (.lst ys))
section
variable {X:Cx} {pins:List (Addr×Obj)} {σ:L2.St} {H:Hp} {s:Shared} {o sc:Scope} {N N':List Str} {src:List (Option Nat)}
theorem Inv.pinD {D:Addr} {ob:Obj} (I:Inv X [] σ H s) (e:s.heap.get? D=some ob) (n:H D=none) (h1:D≠X.env.locals) (h2:D∉X.fs) (h3:∀ v,ob.data≠.cell v):Inv X [(D,ob)] σ H s:=
 I.pins_of fun p hp=>by
  have q:p=(D,ob):=by simpa using hp
  subst q
  exact⟨e,n,h1,h2,h3⟩
abbrev listObj (its:List Value) (n:Nat):Obj:={ cls:=.type "list",data:=.seq its.toArray n }
theorem comp_core {elt target iter:Expr} {ifs:List Expr} {pos:Pos} {J:It} {fp:List Addr} {it:Addr} {tn:Nat->Heap->Prop} {g:TG} {tt:TT} {te:TE} {Q:List V->Hp->Prop} {E:Value->Shared->Prop}
  {RR:Value->Addr->Result->Shared->Prop} (hc:X.calm=true) (CS:CompScope o N sc N' src) (ho:X.env.scope=o) (hN:X.N=N)
  (hg:∀ C s₀ H₀ ex,PG (cxComp X N' sc C s₀ H₀ ex) target g) (hifs:∀ C s₀ H₀ ex,PIfs (cxComp X N' sc C s₀ H₀ ex) ifs tt) (helt:∀ C s₀ H₀ ex,PE (cxComp X N' sc C s₀ H₀ ex) elt te)
  (I:Inv X pins σ H s) (T:Turn X.prog X.w X.K target J fp it tn) (st:tn 0 s.heap) (hf:∀ b∈fp,FpOk X pins H b) (h:tTurns J g tt te (takeSt src σ) H Q)
  (hRR:∀ (D C:Addr) (s':Shared) (ys:List V) (its:List Value) (n:Nat) (H':Hp),Inv X pins σ H' s'->FpOk X pins H' D->FpOk X pins H' C->D≠C->(∃ m,s'.heap.Ns C m)->Vals ys its->s'.heap.get? D=some (listObj its n)->ys.length<=sizeLine ->
   Q ys H'->RR (.ref D) C (.ok .next) s') :
  wpAny (model X.prog X.w) X.A (newList []) (fun acc s₃=>wpAny (model X.prog X.w) X.A (newFunctionEnv sc X.env.globals (closeL X.env.cells sc.names []) [] X.env.qual none .none (some X.env)) (fun cenv s₄=>
   codeAny (model X.prog X.w) X.A (.compStart (.ListComp elt [⟨target,iter,ifs,0⟩] sc pos) 0 (.ref it) acc { cenv with scope:=relabel sc X.env }) (RR acc cenv.locals) s₄) E s₃) E s:=by
 refine wpAny_newObj_type (wpAny_newEnvComp ?_) (by size_fits)
 generalize hD:s.heap.objs.size=D
 generalize hh3:s.heap.push { cls:=.type "list",data:=.seq ([]:List Value).toArray }=h3
 have I3:Inv X pins σ H { s with heap:=h3 }:=by rw[<-hh3]; exact I.kept (t':=s.toks) fun b u e=>Heap.get?_push_of_some _ e
 have eD3:h3.get? D=some (listObj [] 0):=by rw[<-hh3,← hD]; exact Heap.get?_push_size _ rfl
 have sz3:h3.objs.size=D+1:=by rw[<-hh3,← hD,Heap.size_push]
 have fD:FpOk X pins H D:=by rw[<-hD]; exact I.fpOk (Nat.le_refl _) (I.hok.fresh (Nat.le_refl _))
 have fpLt:∀ b∈fp,b<D:=fun b hb=>by
  obtain⟨ob,e,_⟩:=T.obj 0 _ st b hb
  rw[<-hD]; exact Heap.lt_size e
 have nDfp:D∉fp:=fun z=>Nat.lt_irrefl _ (fpLt D z)
 have hfD:∀ b∈D::fp,FpOk X pins H b:=fun b hb=>by
  rcases List.mem_cons.mp hb with e | hb
  ·rw[e]; exact fD
  ·exact hf b hb
 have hltD:∀ b∈D::fp,b<({ s with heap:=h3 }:Shared).heap.objs.size:=fun b hb=>by
  show b<h3.objs.size
  rw[sz3]
  rcases List.mem_cons.mp hb with e | hb
  ·rw[e]; exact Nat.lt_succ_self _
  ·exact Nat.lt_succ_of_lt (fpLt b hb)
 have IC:=Inv.comp (ex:=D::fp) I3 hc CS ho hN hfD hltD
 generalize hX:cxComp X N' sc ({ s with heap:=h3 }:Shared).heap.objs.size { s with heap:=h3 } H (D::fp)=X' at IC
 have hC:X'.env.locals=D+1:=by rw[<-hX]; exact sz3
 have hfs:X'.fs=frs X.stack:=by rw[<-hX]; rfl
 have hex:X'.ex=D::fp:=by rw[<-hX]; rfl
 have hA:X'.A=X.A:=by rw[<-hX]; rfl
 have hP:X'.prog=X.prog:=by rw[<-hX]; rfl
 have hw:X'.w=X.w:=by rw[<-hX]; rfl
 have hK:X'.K=X.K:=by rw[<-hX]; rfl
 have hcm:X'.calm=true:=by rw[<-hX]; exact hc
 have hxe:X'.xe=fun _ _=>False:=by rw[<-hX]; rfl
 have henv:X'.env=compEnvR sc (D+1) X.env:=by rw[<-hX,← sz3]; rfl
 have hs0:X'.s₀={ s with heap:=h3 }:=by rw[<-hX]; rfl
 have hH0:X'.H₀=H:=by rw[<-hX]; rfl
 have hpn:X'.pn=[]:=by rw[<-hX]; rfl
 have hg':PG X' target g:=by rw[<-hX]; exact hg _ _ _ _
 have hifs':PIfs X' ifs tt:=by rw[<-hX]; exact hifs _ _ _ _
 have helt':PE X' elt te:=by rw[<-hX]; exact helt _ _ _ _
 clear hg hifs helt
 have nDC:D≠D+1:=Nat.ne_of_lt (Nat.lt_succ_self _)
 have cellsNe:∀ b∈D::fp,∀ x c,X'.env.cells.lookup x=some c->c≠b:=fun b hb x c e=>(IC.ok.exf b (by rw[hex]; exact hb)).2 x c e
 have exfs:∀ b∈D::fp,b∉X'.fs:=fun b hb=>IC.ok.exfs b (by rw[hex]; exact hb)
 have locNe:∀ b∈D::fp,b≠X'.env.locals:=fun b hb=>(IC.ok.exf b (by rw[hex]; exact hb)).1
 have fpOf:∀ {H':Hp} {ps:List (Addr×Obj)} {b:Addr},b∈D::fp->H' b=none->(∀ p∈ps,p.1≠b)->FpOk X' ps H' b:=fun {H' ps b} hb hn hp=>
  ⟨hn,locNe b hb,exfs b hb,.inl (by rw[hex]; exact hb),cellsNe b hb,fun p hp'=>hp p (by rw[hpn] at hp'; exact hp')⟩
 have noCell:∀ (its:List Value) (n:Nat) (v:Option Value),(listObj its n).data≠.cell v:=fun its n v z=>by
  have z':Data.seq its.toArray n=Data.cell v:=z
  cases z'
 have st3:tn 0 h3:=T.keep _ _ _ st fun b hb u e=>by rw[<-hh3]; exact Heap.get?_push_of_some _ e
 have kp4:∀ b u,h3.get? b=some u->(pushCells (h3.push { cls:=.type "dict",data:=.dict #[] }) sc.names).get? b=some u:=fun b u e=>pushCells_keeps _ _ b u (Heap.get?_push_of_some _ e)
 have st4:tn 0 (pushCells (h3.push { cls:=.type "dict",data:=.dict #[] }) sc.names):=T.keep _ _ _ st3 fun b _ u e=>kp4 b u e
 obtain⟨W,⟨m0,w0⟩,turn⟩:=h
 have loop:codeAny (model X.prog X.w) X.A (.compLoop (.ListComp elt [⟨target,iter,ifs,0⟩] sc pos) 0 (.ref it) (.ref D) X'.env) (RR (.ref D) (D+1)) { s with heap:=pushCells (h3.push { cls:=.type "dict",data:=.dict #[] }) sc.names }:=by
  refine codeAny_compLoop_any (fun n s'=>∃ i σ' ys its k H',Inv X' [] σ' H' s'/\tn i s'.heap/\(∀ b∈fp,H' b=none)/\H' D=none/\Vals ys its/\s'.heap.get? D=some (listObj its k)/\ys.length<=sizeLine/\W i n σ' ys H') ?_ m0
   ⟨0,takeSt src σ,[],[],0,H,IC,st4,fun b hb=>(hf b hb).1,fD.1,.nil,kp4 _ _ eD3,Nat.zero_le _,w0⟩
  rintro n s5 ⟨i,σ5,ys,its,k,H5,I5,st5,fr5,nD5,rv5,e5,z5,w5⟩
  have I5p:=Inv.pinD I5 e5 nD5 (locNe D List.mem_cons_self) (exfs D List.mem_cons_self) (noCell its k)
  have fp5:∀ {H':Hp},(∀ b∈fp,H' b=none)->∀ b∈fp,FpOk X' [(D,listObj its k)] H' b:=fun hn b hb=>fpOf (List.mem_cons_of_mem _ hb) (hn b hb) fun p hp z=>by
   have q:p=(D,listObj its k):=by simpa using hp
   subst q
   have z':D=b:=z
   exact nDfp (by rw[z']; exact hb)
  rcases turn i n σ5 ys H5 w5 with ⟨stop,qn⟩ | ⟨go,zy,Nx,hNx,step⟩
  ·have tr:=T.done X' hP hw hK hcm i _ s5 σ5 H5 (fun _ _=>False) I5p (fp5 fr5) st5 stop
   rw[hA] at tr
   refine thn tr fun r s6 ⟨hr,I6⟩=>?_
   subst hr
   have p6:=I6.pin (D,listObj its k) (List.mem_append_right _ (List.mem_singleton.mpr rfl))
   have u6:=I6.base
   rw[hfs,hex,hH0,hs0] at u6
   have os6:s6.os=s.os:=by rw[I6.os,hs0]
   have J6:Inv X pins σ H5 s6:=Inv.call' (ch:=D::fp) I3 os6 u6 (by have q:=I6.hok; rw[hP,hw] at q; exact q) I6.bare fun b hb=>by
    obtain⟨f0,f1,f2,f3,f4,f5⟩:=hfD b hb
    exact⟨f3,f1,f4,f5⟩
   obtain⟨m6,n6,_⟩:=I6.loc
   rw[hC] at n6
   have nC:H5 (D+1)=none:=by rw[<-hC]; exact I6.free
   refine hRR D (D+1) s6 ys its k H5 J6 ⟨nD5,fD.2⟩ ⟨nC,?_⟩ nDC ⟨m6,n6⟩ rv5 p6.1 z5 qn
   have q:=I3.fpOk (H':=H5) (b:=D+1) (by show h3.objs.size<=D+1; rw[sz3]; exact Nat.le_refl _) nC
   exact q.2
  ·have tr:=T.item X' hP hw hK hcm i _ s5 σ5 H5 (fun _ _=>False) I5p (fp5 fr5) st5 go
   rw[hA] at tr
   refine thn tr fun r s6 ⟨u,hr,h6⟩=>?_
   subst hr
   refine thn h6 fun _ s7 ⟨x,H7,I7,r7,y7,st7,fr7⟩=>?_
   have I7':=I7.pinned (fp5 fr7) (T.obj _ _ st7)
   have ga:=hg' _ s7 σ5 H7 x u _ I7' r7 (step x H7 y7)
   rw[hP,hw,hA,hxe] at ga
   refine thn ga fun _ s8 ⟨σ8,H8,I8,q8⟩=>?_
   have ta:=hifs' _ s8 σ8 H8 _ I8 q8
   rw[hP,hw,hA,hxe] at ta
   refine thn ta fun ok s9 ⟨H9,I9,q9⟩=>?_
   have memD:((D,listObj its k):Addr×Obj)∈X'.pn++([(D,listObj its k)]++pinsAt fp s7.heap):=List.mem_append_right _ (List.mem_append_left _ (List.mem_singleton.mpr rfl))
   have memF:∀ b∈fp,∀ ob,s7.heap.get? b=some ob->((b,ob):Addr×Obj)∈X'.pn++([(D,listObj its k)]++pinsAt fp s7.heap):=fun b hb ob e=>List.mem_append_right _ (List.mem_append_right _ (mem_pinsAt hb e))
   cases ok with
   | false=>
    have q9':Nx σ8 ys H9:=q9
    obtain⟨m',hm,w9⟩:=hNx σ8 ys H9 q9'
    refine⟨m',hm,i+1,σ8,ys,its,k,H9,I9.pins_of (fun p hp=>nomatch hp),T.keep _ _ _ st7 fun b hb ob e=>(I9.pin _ (memF b hb ob e)).1,fun b hb=>?_,(I9.pin _ memD).2.1,rv5,(I9.pin _ memD).1,z5,w9⟩
    obtain⟨ob,e,_⟩:=T.obj _ _ st7 b hb
    exact (I9.pin _ (memF b hb ob e)).2.1
   | true=>
    have q9':te σ8 H9 fun y H4=>Nx σ8 (ys++[y]) H4:=q9
    have ea:=helt' _ s9 σ8 H9 _ I9 q9'
    rw[hP,hw,hA,hxe] at ea
    show wpAny (model X.prog X.w) X.A (eval elt X'.env) _ _ s9
    refine thn ea fun v s10 ⟨y,H10,I10,r10,q10⟩=>?_
    have pD:=I10.pin _ memD
    have e10:s10.heap.get? D=some (listObj its k):=pD.1
    have hlen:=rv5.length
    refine call_meets F.slot_list_append ⟨_,e10,rfl⟩ F.entry_list_append (F.args_list_append_2 _ _) (PySem.list_append D its.toArray k v (by rw[List.size_toArray]; omega)) ⟨e10,?_⟩
    obtain⟨m',hm,w10⟩:=hNx σ8 (ys++[y]) H10 q10
    have up:=PySem.IsL.update e10 (fun xs=>xs.push v)
    have eqA:(its.toArray.push v)=(its++[v]).toArray:=by simp
    rw[eqA] at up
    have other:∀ b ob,b≠D->s10.heap.get? b=some ob->(s10.heap.update D (Obj.mapSeq fun xs=>xs.push v)).get? b=some ob:=fun b ob hb e=>(Heap.get?_update_other s10.heap _ (Ne.symm hb)).trans e
    have I11:=I10.pins_of (pins':=[]) (fun p hp=>nomatch hp)
    have I12:Inv X' [] σ8 H10 { s10 with heap:=s10.heap.update D (Obj.mapSeq fun xs=>xs.push v) }:=I11.turned (t':=s10.toks) (it:=D) (fun b ob hb e=>other b ob hb e) pD.2.1 (locNe D List.mem_cons_self) (.inl (by rw[hex]; exact List.mem_cons_self)) (cellsNe D List.mem_cons_self) (fun p hp=>by rw[hpn] at hp; exact nomatch hp)
    refine⟨m',hm,i+1,σ8,ys++[y],its++[v],_,H10,I12,T.keep _ _ _ st7 fun b hb ob e=>other b ob (fun z=>nDfp (by rw[<-z]; exact hb)) (I10.pin _ (memF b hb ob e)).1,fun b hb=>?_,pD.2.1,rv5.append (.cons r10 .nil),up,by rw[List.length_append,List.length_singleton]; omega,w10⟩
    obtain⟨ob,e,_⟩:=T.obj _ _ st7 b hb
    exact (I10.pin _ (memF b hb ob e)).2.1
 have loop':codeAny (model X.prog X.w) X.A (.compLoop (.ListComp elt [⟨target,iter,ifs,0⟩] sc pos) 0 (.ref it) (.ref D) (compEnvR sc (D+1) X.env)) (RR (.ref D) (D+1)) { s with heap:=pushCells (h3.push { cls:=.type "dict",data:=.dict #[] }) sc.names }:=by rw[<-henv]; exact loop
 show codeAny (model X.prog X.w) X.A (.compStart (.ListComp elt [⟨target,iter,ifs,0⟩] sc pos) 0 (.ref it) (.ref D) (compEnvR sc h3.objs.size X.env)) (RR (.ref D) h3.objs.size) { s with heap:=pushCells (h3.push { cls:=.type "dict",data:=.dict #[] }) sc.names }
 rw[sz3]
 exact codeAny_compStart_list loop' (T.self X.A 0 _ _ _ st4 loop')
theorem closure_of (I:Inv X pins σ H s) (CS:CompScope o N sc N' src) (ho:X.env.scope=o):closureFor sc X.env=pure (closeL X.env.cells sc.names []):=
 closureFor_eq fun x hx hk=>by
  obtain⟨n,k⟩:=x
  cases hk
  obtain⟨c,hc⟩:=CS.cellOf I ho hx
  rw[hc]; rfl
theorem CompScope.loc (CS:CompScope o N sc N' src):∀ x∈sc.names,x.2=.local->sc.names.lookup x.1=some .local:=fun x hx hl=>by
 obtain⟨n,k⟩:=x
 cases hl
 exact lookup_of_mem CS.nd hx
end
section
variable {X:Cx} {elt target iter:Expr} {ifs:List Expr} {pos:Pos} {o sc:Scope} {N N':List Str} {src:List (Option Nat)} {wi:TI} {g:TG} {tt:TT} {te:TE}
theorem pe_comp (CS:CompScope o N sc N' src) (hi:PI X target iter wi) (hg:∀ C s₀ H₀ ex,PG (cxComp X N' sc C s₀ H₀ ex) target g) (hifs:∀ C s₀ H₀ ex,PIfs (cxComp X N' sc C s₀ H₀ ex) ifs tt) (helt:∀ C s₀ H₀ ex,PE (cxComp X N' sc C s₀ H₀ ex) elt te)
  (hc:X.calm=true:=by rfl) (ho:X.env.scope=o:=by rfl) (hN:X.N=N:=by rfl) (hs:∀ x,foldedSetIterable iter X.env x=pure x:=by intro _; rfl):PE X (.ListComp elt [⟨target,iter,ifs,0⟩] sc pos) (tComp wi g tt te src):=by
 intro pins s σ H Q I h
 rw[eval_ListComp]
 refine wpAny_comprehension_free (use:=none) rfl hs (closure_of I CS ho) CS.kind CS.loc (thn (hi pins s σ H _ I h) fun v s1 h1=>thn h1 fun itv s2 h2=>?_)
 obtain⟨it,fp,tn,J,H2,e,I2,T,st2,f2,q2⟩:=h2
 subst e
 refine comp_core (RR:=fun acc C=>compPost (model X.prog X.w) X.A X.xe none (EP X pins σ Q) acc C) hc CS ho hN hg hifs helt I2 T st2 f2 q2 ?_
 intro D C s' ys its n H' I' fD fC nDC ⟨m,hn⟩ rv e z q
 refine⟨m,hn,fun h' sb=>?_⟩
 have I1:=Inv.same I' fC sb
 have e':h'.get? D=some (listObj its n):=(sb.2 D nDC).trans e
 exact⟨.ref D,upd H' D (.lst ys),Inv.adopt I1 fD ⟨_,e'⟩ ⟨z,its,n,rv,e'⟩,rfl,q D fD.1⟩
theorem ps_setComp {i:Nat} {x:Str} {px spos:Pos} (CS:CompScope o N sc N' src) (hNd:X.N.Nodup) (hxi:X.N[i]?=some x) (hx:X.env.scope.names.lookup x=some .local) (hi:PI X target iter wi) (hg:∀ C s₀ H₀ ex,PG (cxComp X N' sc C s₀ H₀ ex) target g)
  (hifs:∀ C s₀ H₀ ex,PIfs (cxComp X N' sc C s₀ H₀ ex) ifs tt) (helt:∀ C s₀ H₀ ex,PE (cxComp X N' sc C s₀ H₀ ex) elt te)
  (hsw:swapsWith (.ListComp elt [⟨target,iter,ifs,0⟩] sc pos) (some (.Name x px)) spos.line X.env=pure true:=by rfl)
  (hc:X.calm=true:=by rfl) (ho:X.env.scope=o:=by rfl) (hN:X.N=N:=by rfl) (hs:∀ x,foldedSetIterable iter X.env x=pure x:=by intro _; rfl) :
  PS X (.Assign [.Name x px] (.ListComp elt [⟨target,iter,ifs,0⟩] sc pos) spos) (tAsg (tComp wi g tt te src) (gName i)):=by
 intro pins s σ H D0 I h
 rw[exec_Assign_Name_used _ _ _ _ hsw]
 refine wpAny_bind (wpAny_standAt (wpAny_bind ?_))
 show wpAny _ X.A (do let _ ← comprehension (.ListComp elt [⟨target,iter,ifs,0⟩] sc pos) sc X.env _ (newList []) false (eval iter X.env) (some (assign (.Name x px) X.env))) _ _ s
 refine wpAny_bind (wpAny_mono (wpAny_comprehension_free (use:=some (assign (.Name x px) X.env)) (Q:=fun _ s'=>SP X pins D0 .next s') rfl hs (closure_of I CS ho) CS.kind CS.loc
  (thn (hi pins s σ H _ I h) fun v s1 h1=>thn h1 fun itv s2 h2=>?_)) (fun _ s' hq=>wpAny_pure (wpAny_pure hq)) fun _ _ e=>e)
 obtain⟨it,fp,tn,J,H2,e,I2,T,st2,f2,q2⟩:=h2
 subst e
 refine comp_core (RR:=fun acc C=>compPost (model X.prog X.w) X.A X.xe (some (assign (.Name x px) X.env)) (fun _ s'=>SP X pins D0 .next s') acc C) hc CS ho hN hg hifs helt I2 T st2 f2 q2 ?_
 intro D C s' ys its n H' I' fD fC nDC ⟨m,hn⟩ rv e z q
 have I1:=Inv.adopt I' fD ⟨_,e⟩ (o:=.lst ys) ⟨z,its,n,rv,e⟩
 have fC':FpOk X pins (upd H' D (.lst ys)) C:=⟨by rw[upd_ne (Ne.symm nDC)]; exact fC.1,fC.2⟩
 show wpAny _ X.A (assign (.Name x px) X.env (.ref D)) _ _ s'
 refine wpAny_assign_Name (store_ok2 (v:=.ref D) I1 hNd hxi (.inl hx) rfl (fun s2 I2' ⟨a,sb,ha⟩=>?_) (.inr hx))
 have hCa:C≠a:=by
  rcases ha with ha | ha
  ·rw[ha]; exact fC.2.1
  ·exact (fC.2.2.2.2.1 x a ha).symm
 refine⟨m,hn.sameBut sb hCa,fun h' sb'=>?_⟩
 exact⟨_,_,Inv.same I2' fC' sb',q D fD.1⟩
end
end L3
namespace L3
open PySem PySem.Spec PyProof.Rows L2
mutual
def Den (K:PySem.W.Frag) (H:Hp):PyData->V->Prop
 | .none,v=>v=.non
 | .bool b,v=>v=.bl b
 | .int i,v=>v=.int i
 | .str x,v=>v=.str x
 | .list ds,v=>∃ p vs,v=.ref p/\SqL K H p vs/\DenL K H ds vs
 | .tuple ds,v=>∃ p vs,v=.ref p/\SqT K H p vs/\DenL K H ds vs
 | .dict _,_=>False
def DenL (K:PySem.W.Frag) (H:Hp):List PyData->List V->Prop
 | [],vs=>vs=[]
 | d::ds,vs=>∃ v r,vs=v::r/\Den K H d v/\DenL K H ds r
end
theorem Same.seqT {K:PySem.W.Frag} {H H':Hp} {a:Addr} {xs:List V} (e:Same H H') (h:SqT K H a xs):SqT K H' a xs:=by
 rcases h with (h | ⟨o,h⟩) | h
 ·exact .inl (.inl (e _ _ h))
 ·exact .inl (.inr ⟨o,e _ _ h⟩)
 ·exact .inr h
mutual
theorem Den.mono {K:PySem.W.Frag} {H H':Hp} (e:Same H H'):∀ (d:PyData) (v:V),Den K H d v->Den K H' d v
 | .none,_,h=>h
 | .bool _,_,h=>h
 | .int _,_,h=>h
 | .str _,_,h=>h
 | .list ds,v,h=>by
  obtain⟨p,vs,h1,h2,h3⟩:=h
  exact⟨p,vs,h1,e.seq h2,DenL.mono e ds vs h3⟩
 | .tuple ds,v,h=>by
  obtain⟨p,vs,h1,h2,h3⟩:=h
  exact⟨p,vs,h1,Same.seqT e h2,DenL.mono e ds vs h3⟩
 | .dict _,_,h=>h
theorem DenL.mono {K:PySem.W.Frag} {H H':Hp} (e:Same H H'):∀ (ds:List PyData) (vs:List V),DenL K H ds vs->DenL K H' ds vs
 | [],_,h=>h
 | d::ds,vs,h=>by
  obtain⟨v,r,h1,h2,h3⟩:=h
  exact⟨v,r,h1,Den.mono e d v h2,DenL.mono e ds r h3⟩
end
mutual
theorem Den.reads {X:Cx} {pins:List (Addr×Obj)} {σ:L2.St} {H:Hp} {s:Shared} (I:Inv X pins σ H s):∀ (d:PyData) (v:V) (u:Value),Den X.K H d v->RelV v u->∃ as,Reads s.heap u d as
 | .none,v,u,h,r=>by
  have e:v=.non:=h
  subst e
  cases (show u=Value.none from r)
  exact⟨[],.none⟩
 | .bool b,v,u,h,r=>by
  have e:v=.bl b:=h
  subst e
  cases (show u=Value.bool b from r)
  exact⟨[],.bool b⟩
 | .int i,v,u,h,r=>by
  have e:v=.int i:=h
  subst e
  obtain⟨t,e⟩:=(show ∃ t,u=Value.int i t from r)
  subst e
  exact⟨[],.int i t⟩
 | .str x,v,u,h,r=>by
  have e:v=.str x:=h
  subst e
  obtain⟨t,e⟩:=(show ∃ t,u=Value.str x t from r)
  subst e
  exact⟨[],.str x t⟩
 | .list ds,v,u,h,r=>by
  obtain⟨p,vs,h1,h2,h3⟩:=h
  subst h1
  cases (show u=Value.ref p from r)
  obtain⟨its,rv,⟨o,n,e,c,_,d⟩,_⟩:=I.list h2
  obtain⟨as,q⟩:=DenL.reads I ds vs its h3 rv
  exact⟨p::as,.list e c d (by simpa using q)⟩
 | .tuple ds,v,u,h,r=>by
  obtain⟨p,vs,h1,h2,h3⟩:=h
  subst h1
  cases (show u=Value.ref p from r)
  obtain⟨its,rv,⟨o,e,c,n,d⟩,_⟩:=I.tuple h2
  obtain⟨as,q⟩:=DenL.reads I ds vs its h3 rv
  exact⟨as,.tuple e c d (by simpa using q)⟩
 | .dict _,_,_,h,_=>False.elim h
theorem DenL.reads {X:Cx} {pins:List (Addr×Obj)} {σ:L2.St} {H:Hp} {s:Shared} (I:Inv X pins σ H s):∀ (ds:List PyData) (vs:List V) (us:List Value),DenL X.K H ds vs->Vals vs us->∃ as,ReadsAll s.heap us ds as
 | [],vs,us,h,r=>by
  have e:vs=[]:=h
  subst e
  cases r
  exact⟨[],.nil⟩
 | d::ds,vs,us,h,r=>by
  obtain⟨v,r',h1,h2,h3⟩:=h
  subst h1
  cases r with
  | cons rv rr=>
   obtain⟨as,q⟩:=Den.reads I d v _ h2 rv
   obtain⟨bs,q'⟩:=DenL.reads I ds r' _ h3 rr
   exact⟨as++bs,.cons q q'⟩
end
section
variable {K:PySem.W.Frag} {H:Hp}
theorem DenL.length:∀ {ds:List PyData} {vs:List V},DenL K H ds vs->ds.length=vs.length
 | [],vs,h=>by
  have e:vs=[]:=h
  subst e; rfl
 | d::ds,vs,h=>by
  obtain⟨v,r,h1,h2,h3⟩:=h
  subst h1
  simp[DenL.length h3]
theorem DenL.append:∀ {ds es:List PyData} {vs ws:List V},DenL K H ds vs->DenL K H es ws->DenL K H (ds++es) (vs++ws)
 | [],_,vs,_,h,q=>by
  have e:vs=[]:=h
  subst e; exact q
 | d::ds,_,vs,_,h,q=>by
  obtain⟨v,r,h1,h2,h3⟩:=h
  subst h1
  exact⟨v,r++_,rfl,h2,DenL.append h3 q⟩
theorem denL_ints:∀ (ns:List Int),DenL K H (ns.map PyData.int) (ns.map V.int)
 | []=>rfl
 | n::ns=>⟨.int n,_,rfl,rfl,denL_ints ns⟩
theorem denL_bools:∀ (bs:List Bool),DenL K H (bs.map PyData.bool) (bs.map V.bl)
 | []=>rfl
 | n::ns=>⟨.bl n,_,rfl,rfl,denL_bools ns⟩
theorem DenL.ints:∀ {ns:List Int} {vs:List V},DenL K H (ns.map PyData.int) vs->vs=ns.map V.int
 | [],_,h=>h
 | n::ns,vs,h=>by
  obtain⟨v,r,h1,h2,h3⟩:=h
  subst h1
  have e:v=.int n:=h2
  subst e
  rw[DenL.ints h3]
  rfl
theorem same_new {p:Addr} {o:HO} (h:H p=none):Same H (upd H p o):=fun b u e=>by rw[upd_ne (ne_of_none e h)]; exact e
end
def wo (H:Hp) (l:Addr):Hp:=fun b=>if b=l then none else H b
theorem wo_at {H:Hp} {l:Addr}:wo H l l=none:=if_pos rfl
theorem wo_ne {H:Hp} {l b:Addr} (h:b≠l):wo H l b=H b:=if_neg h
theorem iteB {c:Bool} {A B:Prop} (h:c=true) (a:A):if c=true then A else B:=by rw[if_pos h]; exact a
theorem iteN {c:Bool} {A B:Prop} (h:c=false) (b:B):if c=true then A else B:=by rw[if_neg (by rw[h]; exact Bool.false_ne_true)]; exact b
section
variable {X:Cx}
def rDEq (K:PySem.W.Frag) (neg:Bool):R2:=fun x y H Q=>∃ d e,Den K H d x/\Den K H e y/\d.canLay0=true/\e.canLay0=true/\d.depth<=60/\Q (.bl (if neg then !PyData.eqv d e else PyData.eqv d e)) H
theorem op_deq (hu:X.A.units+64<cLine):OpR X (compareOp .Eq) (rDEq X.K false):=by
 intro pins s σ H x y v u Q I rx ry h
 obtain⟨d,e,hd,he,c1,c2,hz,q⟩:=h
 obtain⟨as,ra⟩:=Den.reads I d x v hd rx
 obtain⟨bs,rb⟩:=Den.reads I e y u he ry
 have hm:min d.depth e.depth<=d.depth:=Nat.min_le_left _ _
 exact SeqAt.compareEq_reads ra rb c1 c2 (by omega) ⟨.bl _,H,I,rfl,q⟩
theorem op_dne (hu:X.A.units+64<cLine):OpR X (compareOp .NotEq) (rDEq X.K true):=by
 intro pins s σ H x y v u Q I rx ry h
 obtain⟨d,e,hd,he,c1,c2,hz,q⟩:=h
 obtain⟨as,ra⟩:=Den.reads I d x v hd rx
 obtain⟨bs,rb⟩:=Den.reads I e y u he ry
 have hm:min d.depth e.depth<=d.depth:=Nat.min_le_left _ _
 exact SeqAt.compareNe_reads ra rb c1 c2 (by omega) ⟨.bl _,H,I,rfl,q⟩
end
end L3
namespace L3
open PySem PySem.Spec PyProof.Rows L2
section
variable {X:Cx} {pins:List (Addr×Obj)} {σ:L2.St} {H:Hp} {s:Shared} {h':Heap}
end
theorem turns_list {K:PySem.W.Frag} {a:Addr} {xs:List V} {g:TG} {tt:TT} {te:TE} {σ0:L2.St} {H0:Hp} {Q:List V->Hp->Prop} (Pv:Nat->L2.St->List V->Hp->Prop) (h0:Pv 0 σ0 [] H0)
  (hl:∀ i σ ys H,i<=xs.length->Pv i σ ys H->SqL K H a xs/\ys.length<=i) (hz:xs.length<=sizeLine)
  (hs:∀ i x σ ys H,xs[i]?=some x->Pv i σ ys H->g x σ H fun σ2 H2=>tt σ2 H2 fun b H3=>if b=true then te σ2 H3 fun y H4=>Pv (i+1) σ2 (ys++[y]) H4 else Pv (i+1) σ2 ys H3)
  (hd:∀ σ ys H,Pv xs.length σ ys H->Q ys H):tTurns (Itl K a) g tt te σ0 H0 Q:=by
 refine⟨fun i m σ ys H=>m=xs.length-i/\i<=xs.length/\Pv i σ ys H,⟨xs.length,by simp,Nat.zero_le _,h0⟩,?_⟩
 rintro i m σ ys H ⟨rfl,hi,p⟩
 obtain⟨q,z⟩:=hl i σ ys H hi p
 by_cases hlt:i<xs.length
 ·refine .inr ⟨⟨xs,xs[i],q,by simp[hlt]⟩,by omega,Pv (i+1),fun σ' ys' H' p'=>⟨xs.length-(i+1),by omega,rfl,hlt,p'⟩,fun x H' y=>?_⟩
  obtain⟨e,y⟩:=y
  subst e
  exact hs i x σ ys _ (y xs q) p
 ·have e:i=xs.length:=by omega
  subst e
  exact .inl ⟨⟨xs,q,Nat.le_refl _⟩,hd σ ys H p⟩
theorem turns_range {lo:Int} {n:Nat} {g:TG} {tt:TT} {te:TE} {σ0:L2.St} {H0:Hp} {Q:List V->Hp->Prop} (Pv:Nat->L2.St->List V->Hp->Prop) (h0:Pv 0 σ0 [] H0)
  (hl:∀ i σ ys H,i<=n->Pv i σ ys H->ys.length<=i) (hz:n<=sizeLine)
  (hs:∀ i σ ys H,i<n->Pv i σ ys H->g (.int (lo+i)) σ H fun σ2 H2=>tt σ2 H2 fun b H3=>if b=true then te σ2 H3 fun y H4=>Pv (i+1) σ2 (ys++[y]) H4 else Pv (i+1) σ2 ys H3)
  (hd:∀ σ ys H,Pv n σ ys H->Q ys H):tTurns (Itr lo n) g tt te σ0 H0 Q:=by
 refine⟨fun i m σ ys H=>m=n-i/\i<=n/\Pv i σ ys H,⟨n,by simp,Nat.zero_le _,h0⟩,?_⟩
 rintro i m σ ys H ⟨rfl,hi,p⟩
 have z:=hl i σ ys H hi p
 by_cases hlt:i<n
 ·refine .inr ⟨hlt,by omega,Pv (i+1),fun σ' ys' H' p'=>⟨n-(i+1),by omega,rfl,hlt,p'⟩,fun x H' y=>?_⟩
  obtain⟨e,y⟩:=y
  subst e y
  exact hs i σ ys _ hlt p
 ·have e:i=n:=by omega
  subst e
  exact .inl ⟨Nat.le_refl _,hd σ ys H p⟩
section
variable {X:Cx}
end
end L3
namespace L3
open PySem PySem.Spec PyProof.Rows L2
section
variable {prog:Program} {w:World} {A:Around} {E:Value->Shared->Prop} {s:Shared}
end
section
variable {prog:Program} {w:World} {A:Around} {R:Result->Shared->Prop} {I:Addr} {fp wr:List Addr} {n:Nat} {P:Nat->Value->Prop} {St':Nat->Heap->Prop}
end
section
variable {X:Cx} {x:Str} {p pos kpos:Pos} {e:Expr} {t tk:TA} {kws:List Keyword}
end
section
variable {X:Cx} {K:PySem.W.Frag}
theorem ix_listK (h:X.K=K:=by rfl):IxR X (rIxL K):=h ▸ ix_list
end
end L3
namespace Tim
open PySem PyProof.Rows
abbrev SM:=StateT SortSt Sem
def gallop':Bool->Keyed->Array Keyed->Nat->Nat->Nat->SM (Option Nat):=sortPriv% PySem.Builtin.gallop
def mergeLo':Array Keyed->Array Keyed->SM (Array Keyed):=sortPriv% PySem.Builtin.mergeLo
def mergeHi':Array Keyed->Array Keyed->SM (Array Keyed):=sortPriv% PySem.Builtin.mergeHi
abbrev setGal (st:SortSt) (g:Nat):SortSt:=SortSt.mk' (kindOf st) (arrOf st) (pendingOf st) g (failedOf st)
def setMin':Nat->SM Unit:=sortPriv% PySem.Builtin.setMinGallop
theorem setMin'_eq (g:Nat):setMin' g=modify (fun s=>setGal s g):=rfl
def beyond' (left:Bool) (key:Keyed) (arr:Array Keyed) (base i:Nat):SM (Option Bool):=
 elem' arr (base+i) >>= fun x=>if left then lt' x key else lt' key x >>= fun r=>pure (r.map (!·))
abbrev setPend (st:SortSt) (p:Array (Nat×Nat×Nat)):SortSt:=SortSt.mk' (kindOf st) (arrOf st) p (gallopOf st) (failedOf st)
end Tim
namespace Tim
open PySem PyProof.Rows
def kk (κ:KeyKind) (p:Keyed):κ.α:=(κ.keyOf p.1).getD κ.dflt
theorem KK_get {κ:KeyKind} {a:Array Keyed} {i:Nat} {p:Keyed} (h:a[i]?=some p):KK κ a i=kk κ p:=by unfold KK kk; rw[h]
def LtOk (prog:Program) (w:World) (A:Around) (E:Value->Shared->Prop) (s:Shared) (κ:KeyKind) (kd:SortKind):Prop:=
 ∀ (st:SortSt) (x y:Keyed) (Q:Option Bool->SortSt->Prop),kindOf st=kd->(∃ a,κ.keyOf x.1=some a)->(∃ b,κ.keyOf y.1=some b)->Q (some (κ.blt (kk κ x) (kk κ y))) st->wpS (model prog w) A E s (lt' x y) Q st
def Keys (κ:KeyKind) (a:Array Keyed):Prop:=∀ (i:Nat) (p:Keyed),a[i]?=some p->∃ k,κ.keyOf p.1=some k
theorem Keys.perm {κ:KeyKind} {a b:Array Keyed} (h:Keys κ a) (p:b.Perm a):Keys κ b:=fun i x e=>by
 have hm:x∈a.toList:=(Array.perm_iff_toList_perm.mp p).mem_iff.mp (Array.mem_toList_iff.mpr (Array.mem_of_getElem? e))
 obtain⟨j,hj,e2⟩:=List.mem_iff_getElem.mp hm
 exact h j x (by rw[<-Array.getElem?_toList,List.getElem?_eq_getElem hj,e2])
def Seg (κ:KeyKind) (a:Array Keyed) (lo hi:Nat):Prop:=∀ i j,lo<=i->i<=j->j<hi->κ.kle (KK κ a i) (KK κ a j)
section
variable {prog:Program} {w:World} {A:Around} {E:Value->Shared->Prop} {s:Shared} {κ:KeyKind} {kd:SortKind}
theorem wpS_elem {st:SortSt} {a:Array Keyed} {i:Nat} {Q:Keyed->SortSt->Prop} (hi:i<a.size) (h:Q a[i] st):wpS (model prog w) A E s (elem' a i) Q st:=by
 rw[elem'_eq,Array.getElem?_eq_getElem hi]
 exact wpS_pure h
def byd (κ:KeyKind) (left:Bool) (key:κ.α) (x:κ.α):Bool:=if left then κ.blt x key else !κ.blt key x
theorem wpS_beyond (hL:LtOk prog w A E s κ kd) {st:SortSt} {left:Bool} {key:Keyed} {arr:Array Keyed} {base i:Nat} {Q:Option Bool->SortSt->Prop} (hk:kindOf st=kd) (hkey:∃ a,κ.keyOf key.1=some a) (ha:Keys κ arr) (hi:base+i<arr.size)
  (h:Q (some (byd κ left (kk κ key) (KK κ arr (base+i)))) st):wpS (model prog w) A E s (beyond' left key arr base i) Q st:=by
 unfold beyond'
 refine wpS_bind (wpS_elem hi ?_)
 have e:arr[base+i]?=some arr[base+i]:=Array.getElem?_eq_getElem hi
 rw[KK_get e] at h
 cases left with
 | true=>
  simp only[if_true]
  exact hL st _ _ _ hk (ha _ _ e) hkey (by simpa [byd] using h)
 | false=>
  simp only[Bool.false_eq_true,if_false]
  refine wpS_bind (hL st _ _ _ hk hkey (ha _ _ e) ?_)
  exact wpS_pure (by simpa [byd] using h)
theorem wpS_gallop (hL:LtOk prog w A E s κ kd) {st:SortSt} {left:Bool} {key:Keyed} {arr:Array Keyed} {base n hint:Nat} {Q:Option Nat->SortSt->Prop} (hk:kindOf st=kd) (hkey:∃ a,κ.keyOf key.1=some a) (ha:Keys κ arr) (hn:base+n<=arr.size) (hh:hint<n)
  (hs:Seg κ arr base (base+n)) (h:∀ k,k<=n->(∀ i,i<k->byd κ left (kk κ key) (KK κ arr (base+i))=true)->(∀ i,k<=i->i<n->byd κ left (kk κ key) (KK κ arr (base+i))=false)->Q (some k) st) :
  wpS (model prog w) A E s (gallop' left key arr base n hint) Q st:=by
 have mono:∀ i j,i<=j->j<n->byd κ left (kk κ key) (KK κ arr (base+j))=true->byd κ left (kk κ key) (KK κ arr (base+i))=true:=fun i j hij hj hb=>by
  have hle:=hs (base+i) (base+j) (by omega) (by omega) (by omega)
  cases left with
  | true=>
   simp only[byd,if_true] at hb ⊢
   exact KeyOrd.klt_of_kle_of_klt hle hb
  | false=>
   simp only[byd,Bool.false_eq_true,if_false] at hb ⊢
   have hb':κ.kle (KK κ arr (base+j)) (kk κ key):=by simpa [KeyOrd.kle] using hb
   have:=KeyOrd.kle_trans hle hb'
   simpa [KeyOrd.kle] using this
 have anti:∀ i j,i<=j->j<n->byd κ left (kk κ key) (KK κ arr (base+i))=false->byd κ left (kk κ key) (KK κ arr (base+j))=false:=fun i j hij hj hb=>by
  cases q:byd κ left (kk κ key) (KK κ arr (base+j)) with
  | false=>rfl
  | true=>rw[mono i j hij hj q] at hb; cases hb
 show wpS _ _ _ _ (bind _ _) _ _
 refine wpS_bind (wpS_beyond hL hk hkey ha (by omega) ?_)
 dsimp only
 cases q0:byd κ left (kk κ key) (KK κ arr (base+hint)) with
 | true=>
  simp only[if_true]
  refine wpS_bind (wpS_mono (wpS_forRange (I:=fun x c st'=>st'=st/\∃ lastofs ofs,c=(none,lastofs,ofs)/\x+1<=ofs/\lastofs<ofs/\lastofs<n-hint/\byd κ left (kk κ key) (KK κ arr (base+(hint+lastofs)))=true)
   (Q:=fun c st'=>st'=st/\∃ lastofs ofs,c=(none,lastofs,ofs)/\lastofs<ofs/\lastofs<n-hint/\byd κ left (kk κ key) (KK κ arr (base+(hint+lastofs)))=true/\(n-hint<=ofs\/byd κ left (kk κ key) (KK κ arr (base+(hint+ofs)))=false)) ?_ ?_ ⟨rfl,0,1,rfl,by omega,by omega,by omega,q0⟩) ?_)
  ·rintro x c st' _ hx ⟨rfl,lastofs,ofs,rfl,g1,g2,g3,g4⟩
   dsimp only
   by_cases hge:ofs≥n-hint
   ·rw[if_pos hge]
    exact wpS_pure ⟨rfl,lastofs,ofs,rfl,g2,g3,g4,.inl hge⟩
   ·rw[if_neg hge]
    refine wpS_bind (wpS_beyond hL hk hkey ha (by omega) ?_)
    dsimp only
    cases q:byd κ left (kk κ key) (KK κ arr (base+(hint+ofs))) with
    | true=>
     simp only[Bool.not_true,Bool.false_eq_true,if_false]
     exact wpS_pure ⟨rfl,ofs,2*ofs+1,rfl,by omega,by omega,by omega,q⟩
    | false=>
     simp only[Bool.not_false,if_true]
     exact wpS_pure ⟨rfl,lastofs,ofs,rfl,g2,g3,g4,.inr q⟩
  ·rintro c st' ⟨rfl,lastofs,ofs,rfl,g1,g2,g3,g4⟩
   exact⟨rfl,lastofs,ofs,rfl,g2,g3,g4,.inl (by omega)⟩
  ·rintro c st1 ⟨rfl,lastofs,ofs,rfl,g2,g3,g4,g5⟩
   dsimp only
   have h1:hint+lastofs+1<=hint+min ofs (n-hint):=by omega
   have h2:hint+min ofs (n-hint)<=n:=by omega
   have h3:∀ i,i<hint+lastofs+1->byd κ left (kk κ key) (KK κ arr (base+i))=true:=fun i hi=>mono i (hint+lastofs) (by omega) (by omega) g4
   have h4:∀ i,hint+min ofs (n-hint)<=i->i<n->byd κ left (kk κ key) (KK κ arr (base+i))=false:=fun i hi hn'=>by
    rcases g5 with g5 | g5
    ·omega
    ·by_cases hge:ofs≥n-hint
     ·omega
     ·exact anti (hint+ofs) i (by omega) hn' g5
   generalize hint+lastofs+1=lo at h1 h3 ⊢
   generalize hint+min ofs (n-hint)=hi at h1 h2 h4 ⊢
   refine wpS_bind (wpS_mono (wpS_forRange (I:=fun x c st2=>st2=st1/\∃ lo hi,c=(none,lo,hi)/\lo<=hi/\hi<=n/\hi-lo<=n-x/\(∀ i,i<lo->byd κ left (kk κ key) (KK κ arr (base+i))=true)/\(∀ i,hi<=i->i<n->byd κ left (kk κ key) (KK κ arr (base+i))=false))
    (Q:=fun c st2=>st2=st1/\∃ k,c.1=none/\c.2.2=k/\k<=n/\(∀ i,i<k->byd κ left (kk κ key) (KK κ arr (base+i))=true)/\(∀ i,k<=i->i<n->byd κ left (kk κ key) (KK κ arr (base+i))=false)) ?_ ?_ ⟨rfl,lo,hi,rfl,h1,h2,by omega,h3,h4⟩) ?_)
   ·rintro x c st2 _ hx ⟨rfl,lo,hi,rfl,g1,g2,g3,g4,g5⟩
    dsimp only
    by_cases hge:lo≥hi
    ·rw[if_pos hge]
     have:lo=hi:=by omega
     subst this
     exact wpS_pure ⟨rfl,lo,rfl,rfl,g2,g4,g5⟩
    ·rw[if_neg hge]
     refine wpS_bind (wpS_beyond hL hk hkey ha (by omega) ?_)
     dsimp only
     cases q:byd κ left (kk κ key) (KK κ arr (base+(lo+(hi-lo)/2))) with
     | true=>
      simp only[if_true]
      refine wpS_pure ⟨rfl,_,_,rfl,by omega,g2,by omega,fun i hi'=>mono i _ (by omega) (by omega) q,g5⟩
     | false=>
      simp only[Bool.false_eq_true,if_false]
      refine wpS_pure ⟨rfl,_,_,rfl,by omega,by omega,by omega,g4,fun i hi' hn'=>anti _ i hi' hn' q⟩
   ·rintro c st2 ⟨rfl,lo,hi,rfl,g1,g2,g3,g4,g5⟩
    have:lo=hi:=by omega
    subst this
    exact⟨rfl,lo,rfl,rfl,g2,g4,g5⟩
   ·rintro ⟨c1,c2,c3⟩ st2 ⟨rfl,k,g1,g2,g3,g4,g5⟩
    dsimp only at g1 g2 ⊢
    subst g1 g2
    exact wpS_pure (h _ g3 g4 g5)
 | false=>
  simp only[Bool.false_eq_true,if_false]
  refine wpS_bind (wpS_mono (wpS_forRange (I:=fun x c st'=>st'=st/\∃ lastofs ofs,c=(none,lastofs,ofs)/\x+1<=ofs/\lastofs<ofs/\lastofs<=hint/\byd κ left (kk κ key) (KK κ arr (base+(hint-lastofs)))=false)
   (Q:=fun c st'=>st'=st/\∃ lastofs ofs,c=(none,lastofs,ofs)/\lastofs<ofs/\lastofs<=hint/\byd κ left (kk κ key) (KK κ arr (base+(hint-lastofs)))=false/\(hint+1<=ofs\/byd κ left (kk κ key) (KK κ arr (base+(hint-ofs)))=true)) ?_ ?_ ⟨rfl,0,1,rfl,by omega,by omega,by omega,q0⟩) ?_)
  ·rintro x c st' _ hx ⟨rfl,lastofs,ofs,rfl,g1,g2,g3,g4⟩
   dsimp only
   by_cases hge:ofs≥hint+1
   ·rw[if_pos hge]
    exact wpS_pure ⟨rfl,lastofs,ofs,rfl,g2,g3,g4,.inl hge⟩
   ·rw[if_neg hge]
    refine wpS_bind (wpS_beyond hL hk hkey ha (by omega) ?_)
    dsimp only
    cases q:byd κ left (kk κ key) (KK κ arr (base+(hint-ofs))) with
    | true=>
     simp only[if_true]
     exact wpS_pure ⟨rfl,lastofs,ofs,rfl,g2,g3,g4,.inr q⟩
    | false=>
     simp only[Bool.false_eq_true,if_false]
     exact wpS_pure ⟨rfl,ofs,2*ofs+1,rfl,by omega,by omega,by omega,q⟩
  ·rintro c st' ⟨rfl,lastofs,ofs,rfl,g1,g2,g3,g4⟩
   exact⟨rfl,lastofs,ofs,rfl,g2,g3,g4,.inl (by omega)⟩
  ·rintro c st1 ⟨rfl,lastofs,ofs,rfl,g2,g3,g4,g5⟩
   dsimp only
   have h1:hint+1-min ofs (hint+1)<=hint-lastofs:=by omega
   have h2:hint-lastofs<=n:=by omega
   have h3:∀ i,i<hint+1-min ofs (hint+1)->byd κ left (kk κ key) (KK κ arr (base+i))=true:=fun i hi=>by
    rcases g5 with g5 | g5
    ·omega
    ·by_cases hge:ofs≥hint+1
     ·omega
     ·exact mono i (hint-ofs) (by omega) (by omega) g5
   have h4:∀ i,hint-lastofs<=i->i<n->byd κ left (kk κ key) (KK κ arr (base+i))=false:=fun i hi hn'=>anti (hint-lastofs) i hi hn' g4
   generalize hint+1-min ofs (hint+1)=lo at h1 h3 ⊢
   generalize hint-lastofs=hi at h1 h2 h4 ⊢
   refine wpS_bind (wpS_mono (wpS_forRange (I:=fun x c st2=>st2=st1/\∃ lo hi,c=(none,lo,hi)/\lo<=hi/\hi<=n/\hi-lo<=n-x/\(∀ i,i<lo->byd κ left (kk κ key) (KK κ arr (base+i))=true)/\(∀ i,hi<=i->i<n->byd κ left (kk κ key) (KK κ arr (base+i))=false))
    (Q:=fun c st2=>st2=st1/\∃ k,c.1=none/\c.2.2=k/\k<=n/\(∀ i,i<k->byd κ left (kk κ key) (KK κ arr (base+i))=true)/\(∀ i,k<=i->i<n->byd κ left (kk κ key) (KK κ arr (base+i))=false)) ?_ ?_ ⟨rfl,lo,hi,rfl,h1,h2,by omega,h3,h4⟩) ?_)
   ·rintro x c st2 _ hx ⟨rfl,lo,hi,rfl,g1,g2,g3,g4,g5⟩
    dsimp only
    by_cases hge:lo≥hi
    ·rw[if_pos hge]
     have:lo=hi:=by omega
     subst this
     exact wpS_pure ⟨rfl,lo,rfl,rfl,g2,g4,g5⟩
    ·rw[if_neg hge]
     refine wpS_bind (wpS_beyond hL hk hkey ha (by omega) ?_)
     dsimp only
     cases q:byd κ left (kk κ key) (KK κ arr (base+(lo+(hi-lo)/2))) with
     | true=>
      simp only[if_true]
      refine wpS_pure ⟨rfl,_,_,rfl,by omega,g2,by omega,fun i hi'=>mono i _ (by omega) (by omega) q,g5⟩
     | false=>
      simp only[Bool.false_eq_true,if_false]
      refine wpS_pure ⟨rfl,_,_,rfl,by omega,by omega,by omega,g4,fun i hi' hn'=>anti _ i hi' hn' q⟩
   ·rintro c st2 ⟨rfl,lo,hi,rfl,g1,g2,g3,g4,g5⟩
    have:lo=hi:=by omega
    subst this
    exact⟨rfl,lo,rfl,rfl,g2,g4,g5⟩
   ·rintro ⟨c1,c2,c3⟩ st2 ⟨rfl,k,g1,g2,g3,g4,g5⟩
    dsimp only at g1 g2 ⊢
    subst g1 g2
    exact wpS_pure (h _ g3 g4 g5)
end
end Tim
namespace Tim
open PySem PyProof.Rows
section
variable {κ:KeyKind}
def le (κ:KeyKind) (x y:Keyed):Prop:=κ.kle (kk κ x) (kk κ y)
theorem le_trans {x y z:Keyed} (h1:le κ x y) (h2:le κ y z):le κ x z:=KeyOrd.kle_trans h1 h2
theorem le_refl (x:Keyed):le κ x x:=KeyOrd.kle_refl _
theorem le_of_lt {x y:Keyed} (h:κ.blt (kk κ x) (kk κ y)=true):le κ x y:=KeyOrd.kle_of_klt h
theorem le_of_not {x y:Keyed} (h:κ.blt (kk κ x) (kk κ y)=false):le κ y x:=h
abbrev Srt (κ:KeyKind) (l:List Keyed):Prop:=l.Pairwise (le κ)
def Res (κ:KeyKind) (A B:List Keyed) (r:Array Keyed):Prop:=r.toList.Perm (A++B)/\Srt κ r.toList
structure Inv3 (κ:KeyKind) (A B out:List Keyed) (i j:Nat):Prop where
 hi:i<=A.length
 hj:j<=B.length
 perm:out.Perm (A.take i++B.take j)
 srt:Srt κ out
 la:∀ x∈out,∀ y∈A.drop i,le κ x y
 lb:∀ x∈out,∀ y∈B.drop j,le κ x y
theorem Inv3.takeA {A B out:List Keyed} {i j k:Nat} (h:Inv3 κ A B out i j) (sA:Srt κ A) (hk:i+k<=A.length) (hb:∀ x∈(A.drop i).take k,∀ y∈B.drop j,le κ x y):Inv3 κ A B (out++(A.drop i).take k) (i+k) j:=by
 have e1:A.take (i+k)=A.take i++(A.drop i).take k:=List.take_add
 have e2:A.drop (i+k)=(A.drop i).drop k:=by rw[List.drop_drop]
 have sD:Srt κ ((A.drop i).take k++(A.drop i).drop k):=by rw[List.take_append_drop]; exact sA.sublist (List.drop_sublist _ _)
 have sD':=List.pairwise_append.mp sD
 refine⟨hk,h.hj,?_,?_,fun x hx y hy=>?_,fun x hx y hy=>?_⟩
 ·rw[e1]
  have:(A.take i++(A.drop i).take k++B.take j).Perm (A.take i++B.take j++(A.drop i).take k):=by
   rw[List.append_assoc,List.append_assoc]
   exact List.Perm.append_left _ List.perm_append_comm
  exact (h.perm.append_right _).trans this.symm
 ·exact List.pairwise_append.mpr ⟨h.srt,sD'.1,fun x hx y hy=>h.la x hx y (List.mem_of_mem_take hy)⟩
 ·rw[e2] at hy
  rcases List.mem_append.mp hx with hx | hx
  ·exact h.la x hx y (List.mem_of_mem_drop hy)
  ·exact sD'.2.2 x hx y hy
 ·rcases List.mem_append.mp hx with hx | hx
  ·exact h.lb x hx y hy
  ·exact hb x hx y hy
theorem Inv3.swap {A B out:List Keyed} {i j:Nat} (h:Inv3 κ A B out i j):Inv3 κ B A out j i:=⟨h.hj,h.hi,h.perm.trans List.perm_append_comm,h.srt,h.lb,h.la⟩
theorem Inv3.fin {A B out R:List Keyed} {i j:Nat} (h:Inv3 κ A B out i j) (hp:R.Perm (A.drop i++B.drop j)) (hs:Srt κ R):(out++R).Perm (A++B)/\Srt κ (out++R):=by
 refine⟨?_,List.pairwise_append.mpr ⟨h.srt,hs,fun x hx y hy=>?_⟩⟩
 ·have e:(A++B).Perm (A.take i++B.take j++(A.drop i++B.drop j)):=by
   have:A++B=A.take i++A.drop i++(B.take j++B.drop j):=by rw[List.take_append_drop,List.take_append_drop]
   rw[this,List.append_assoc,List.append_assoc]
   refine List.Perm.append_left _ ?_
   rw[<-List.append_assoc,← List.append_assoc]
   exact List.Perm.append_right _ List.perm_append_comm
  exact (List.Perm.append h.perm hp).trans e.symm
 ·rcases List.mem_append.mp (hp.mem_iff.mp hy) with hy | hy
  ·exact h.la x hx y hy
  ·exact h.lb x hx y hy
theorem ext_toList (a:Array Keyed) (i j:Nat):(a.extract i j).toList=(a.toList.drop i).take (j-i):=by simp[List.extract_eq_take_drop]
theorem ext_all (a:Array Keyed) (i:Nat):(a.extract i a.size).toList=a.toList.drop i:=by
 rw[ext_toList,List.take_of_length_le]
 simp
theorem Inv3.done {a b out:Array Keyed} {i j:Nat} (h:Inv3 κ a.toList b.toList out.toList i j) (sA:Srt κ a.toList) (sB:Srt κ b.toList) (he:i=a.size\/j=b.size) :
  Res κ a.toList b.toList (out++a.extract i a.size++b.extract j b.size):=by
 have hr:=h.fin (R:=a.toList.drop i++b.toList.drop j) (List.Perm.refl _) (by
  rcases he with he | he
  ·have:a.toList.drop i=[]:=List.drop_eq_nil_of_le (by simp[he])
   rw[this,List.nil_append]; exact sB.sublist (List.drop_sublist _ _)
  ·have:b.toList.drop j=[]:=List.drop_eq_nil_of_le (by simp[he])
   rw[this,List.append_nil]; exact sA.sublist (List.drop_sublist _ _))
 unfold Res
 rw[Array.toList_append,Array.toList_append,ext_all,ext_all,List.append_assoc]
 exact hr
theorem Inv3.last {a b out:Array Keyed} {i j:Nat} (h:Inv3 κ a.toList b.toList out.toList i j) (sB:Srt κ b.toList) (sA:Srt κ a.toList) (hl:∀ x∈b.toList,∀ y∈a.toList.drop i,le κ x y) :
  Res κ a.toList b.toList (out++b.extract j b.size++a.extract i a.size):=by
 have hr:=h.fin (R:=b.toList.drop j++a.toList.drop i) List.perm_append_comm (List.pairwise_append.mpr ⟨sB.sublist (List.drop_sublist _ _),sA.sublist (List.drop_sublist _ _),fun x hx y hy=>hl x (List.mem_of_mem_drop hx) y hy⟩)
 unfold Res
 rw[Array.toList_append,Array.toList_append,ext_all,ext_all,List.append_assoc]
 exact hr
structure Inv4 (κ:KeyKind) (A B out:List Keyed) (i j:Nat):Prop where
 hi:i<=A.length
 hj:j<=B.length
 perm:out.Perm (A.drop i++B.drop j)
 srt:Srt κ out
 la:∀ x∈out,∀ y∈A.take i,le κ y x
 lb:∀ x∈out,∀ y∈B.take j,le κ y x
theorem Inv4.swap {A B out:List Keyed} {i j:Nat} (h:Inv4 κ A B out i j):Inv4 κ B A out j i:=⟨h.hj,h.hi,h.perm.trans List.perm_append_comm,h.srt,h.lb,h.la⟩
theorem Inv4.takeA {A B out:List Keyed} {i j k:Nat} (h:Inv4 κ A B out i j) (sA:Srt κ A) (hk:k<=i) (hb:∀ x∈(A.take i).drop k,∀ y∈B.take j,le κ y x):Inv4 κ A B ((A.take i).drop k++out) k j:=by
 have hi:=h.hi
 have e0:(A.take i).take k=A.take k:=by rw[List.take_take]; congr 1; omega
 have sT:Srt κ ((A.take i).take k++(A.take i).drop k):=by rw[List.take_append_drop]; exact sA.sublist (List.take_sublist _ _)
 have sT':=List.pairwise_append.mp sT
 have e1:A.drop k=(A.take i).drop k++A.drop i:=by
  have:A=A.take i++A.drop i:=(List.take_append_drop _ _).symm
  conv=>lhs; rw[this]
  rw[List.drop_append_of_le_length (by rw[List.length_take]; omega)]
 refine⟨by omega,h.hj,?_,?_,fun x hx y hy=>?_,fun x hx y hy=>?_⟩
 ·rw[e1,List.append_assoc]
  exact List.Perm.append_left _ h.perm
 ·exact List.pairwise_append.mpr ⟨sT'.2.1,h.srt,fun x hx y hy=>h.la y hy x (List.mem_of_mem_drop hx)⟩
 ·rw[<-e0] at hy
  rcases List.mem_append.mp hx with hx | hx
  ·exact sT'.2.2 y hy x hx
  ·exact h.la x hx y (List.mem_of_mem_take hy)
 ·rcases List.mem_append.mp hx with hx | hx
  ·exact hb x hx y hy
  ·exact h.lb x hx y hy
theorem Inv4.fin {A B out R:List Keyed} {i j:Nat} (h:Inv4 κ A B out i j) (hp:R.Perm (A.take i++B.take j)) (hs:Srt κ R):(R++out).Perm (A++B)/\Srt κ (R++out):=by
 refine⟨?_,List.pairwise_append.mpr ⟨hs,h.srt,fun x hx y hy=>?_⟩⟩
 ·have e:(A++B).Perm (A.take i++B.take j++(A.drop i++B.drop j)):=by
   have:A++B=A.take i++A.drop i++(B.take j++B.drop j):=by rw[List.take_append_drop,List.take_append_drop]
   rw[this,List.append_assoc,List.append_assoc]
   refine List.Perm.append_left _ ?_
   rw[<-List.append_assoc,← List.append_assoc]
   exact List.Perm.append_right _ List.perm_append_comm
  exact (List.Perm.append hp h.perm).trans e.symm
 ·rcases List.mem_append.mp (hp.mem_iff.mp hx) with hx | hx
  ·exact h.la y hy x hx
  ·exact h.lb y hy x hx
theorem ext_zero (a:Array Keyed) (i:Nat):(a.extract 0 i).toList=a.toList.take i:=by rw[ext_toList,List.drop_zero,Nat.sub_zero]
theorem Inv4.done {a b out:Array Keyed} {i j:Nat} (h:Inv4 κ a.toList b.toList out.toList.reverse i j) (sA:Srt κ a.toList) (sB:Srt κ b.toList) (he:i=0\/j=0) :
  Res κ a.toList b.toList (a.extract 0 i++b.extract 0 j++out.reverse):=by
 have hr:=h.fin (R:=a.toList.take i++b.toList.take j) (List.Perm.refl _) (by
  rcases he with he | he
  ·subst he
   rw[List.take_zero,List.nil_append]; exact sB.sublist (List.take_sublist _ _)
  ·subst he
   rw[List.take_zero,List.append_nil]; exact sA.sublist (List.take_sublist _ _))
 unfold Res
 rw[Array.toList_append,Array.toList_append,ext_zero,ext_zero,Array.toList_reverse]
 exact hr
theorem Inv4.first {a b out:Array Keyed} {i j:Nat} (h:Inv4 κ a.toList b.toList out.toList.reverse i j) (sA:Srt κ a.toList) (sB:Srt κ b.toList) (hl:∀ x∈b.toList.take j,∀ y∈a.toList,le κ x y) :
  Res κ a.toList b.toList (b.extract 0 j++a.extract 0 i++out.reverse):=by
 have hr:=h.fin (R:=b.toList.take j++a.toList.take i) List.perm_append_comm (List.pairwise_append.mpr ⟨sB.sublist (List.take_sublist _ _),sA.sublist (List.take_sublist _ _),fun x hx y hy=>hl x hx y (List.mem_of_mem_take hy)⟩)
 unfold Res
 rw[Array.toList_append,Array.toList_append,ext_zero,ext_zero,Array.toList_reverse]
 exact hr
end
end Tim
namespace Tim
open PySem PyProof.Rows
structure SameSt (st st':SortSt):Prop where
 arr:arrOf st'=arrOf st
 pend:pendingOf st'=pendingOf st
 kind:kindOf st'=kindOf st
 failed:failedOf st'=failedOf st
theorem SameSt.refl (st:SortSt):SameSt st st:=⟨rfl,rfl,rfl,rfl⟩
theorem SameSt.gal {st st':SortSt} (h:SameSt st st') (g:Nat):SameSt st (setGal st' g):=⟨h.arr,h.pend,h.kind,h.failed⟩
section
variable {κ:KeyKind}
theorem mem_drop {A:List Keyed} {i:Nat} {x:Keyed} (h:x∈A.drop i):∃ j,A[i+j]?=some x:=by
 obtain⟨j,hj,e⟩:=List.mem_iff_getElem.mp h
 refine⟨j,?_⟩
 rw[List.getElem_drop] at e
 rw[List.length_drop] at hj
 rw[List.getElem?_eq_getElem (by omega),e]
theorem mem_drop_take {A:List Keyed} {i k:Nat} {x:Keyed} (h:x∈(A.drop i).take k):∃ j,j<k/\A[i+j]?=some x:=by
 obtain⟨j,hj,e⟩:=List.mem_iff_getElem.mp h
 rw[List.length_take,List.length_drop] at hj
 rw[List.getElem_take,List.getElem_drop] at e
 exact⟨j,by omega,by rw[List.getElem?_eq_getElem (by omega),e]⟩
theorem srt_get {A:List Keyed} (s:Srt κ A) {i j:Nat} {x y:Keyed} (hij:i<=j) (hx:A[i]?=some x) (hy:A[j]?=some y):le κ x y:=by
 obtain⟨hi,ei⟩:=List.getElem?_eq_some_iff.mp hx
 obtain⟨hj,ej⟩:=List.getElem?_eq_some_iff.mp hy
 by_cases h:i=j
 ·subst h
  rw[ei] at ej
  subst ej
  exact le_refl _
 ·have:=List.pairwise_iff_getElem.mp s i j hi hj (by omega)
  rw[ei,ej] at this
  exact this
theorem toL {a:Array Keyed} {i:Nat} (h:i<a.size):a.toList[i]?=some a[i]:=by rw[Array.getElem?_toList,Array.getElem?_eq_getElem h]
theorem head_le {a:Array Keyed} (s:Srt κ a.toList) {i:Nat} (h:i<a.size):∀ y∈a.toList.drop i,le κ a[i] y:=fun y hy=>by
 obtain⟨j,hj⟩:=mem_drop hy
 exact srt_get s (Nat.le_add_right i j) (toL h) hj
theorem drop_one {a:Array Keyed} {i:Nat} (h:i<a.size):(a.toList.drop i).take 1=[a[i]]:=by
 rw[List.drop_eq_getElem_cons (by simpa using h)]
 simp
theorem srt_seg {a:Array Keyed} (s:Srt κ a.toList) {lo hi:Nat} (h:hi<=a.size):Seg κ a lo hi:=fun i j h1 h2 h3=>by
 have e1:a[i]?=some a[i]:=Array.getElem?_eq_getElem (by omega)
 have e2:a[j]?=some a[j]:=Array.getElem?_eq_getElem (by omega)
 rw[KK_get e1,KK_get e2]
 exact srt_get s h2 (toL (by omega)) (toL (by omega))
theorem Inv3.pushA {a b out:Array Keyed} {i j:Nat} (h:Inv3 κ a.toList b.toList out.toList i j) (sA:Srt κ a.toList) (hi:i<a.size) (hb:∀ y∈b.toList.drop j,le κ a[i] y):Inv3 κ a.toList b.toList (out.push a[i]).toList (i+1) j:=by
 rw[Array.toList_push,← drop_one hi]
 refine h.takeA sA (by simp; omega) fun x hx y hy=>?_
 rw[drop_one hi] at hx
 rw[List.mem_singleton.mp hx]
 exact hb y hy
theorem Inv3.pushB {a b out:Array Keyed} {i j:Nat} (h:Inv3 κ a.toList b.toList out.toList i j) (sB:Srt κ b.toList) (hj:j<b.size) (hb:∀ y∈a.toList.drop i,le κ b[j] y):Inv3 κ a.toList b.toList (out.push b[j]).toList i (j+1):=
 (h.swap.pushA sB hj hb).swap
theorem ext_k {a:Array Keyed} {i k:Nat}:(a.extract i (i+k)).toList=(a.toList.drop i).take k:=by rw[ext_toList]; congr 1; omega
theorem Inv3.appA {a b out:Array Keyed} {i j k:Nat} (h:Inv3 κ a.toList b.toList out.toList i j) (sA:Srt κ a.toList) (hk:i+k<=a.size) (hb:∀ x∈(a.toList.drop i).take k,∀ y∈b.toList.drop j,le κ x y) :
  Inv3 κ a.toList b.toList (out++a.extract i (i+k)).toList (i+k) j:=by
 rw[Array.toList_append,ext_k]
 exact h.takeA sA (by simpa using hk) hb
theorem Inv3.appB {a b out:Array Keyed} {i j k:Nat} (h:Inv3 κ a.toList b.toList out.toList i j) (sB:Srt κ b.toList) (hk:j+k<=b.size) (hb:∀ x∈(b.toList.drop j).take k,∀ y∈a.toList.drop i,le κ x y) :
  Inv3 κ a.toList b.toList (out++b.extract j (j+k)).toList i (j+k):=(h.swap.appA sB hk hb).swap
end
section
variable {prog:Program} {w:World} {A:Around} {E:Value->Shared->Prop} {s:Shared} {κ:KeyKind} {kd:SortKind}
theorem wpS_jp {α:Type} {Q:α->SortSt->Prop} {st:SortSt} {c:Nat->Prop} {d:∀ m,Decidable (c m)} {p q:Nat->_} (F:Nat->_) (e2:∀ m,F m=q m) (e1:∀ m,F (m-1)=p m) (h:∀ m,wpS (model prog w) A E s (F m) Q st):∀ m,wpS (model prog w) A E s (@ite _ (c m) (d m) (p m) (q m)) Q st:=by
 intro m
 by_cases e:c m
 ·rw[if_pos e,← e1]; exact h _
 ·rw[if_neg e,← e2]; exact h _
theorem wpS_setMin {st:SortSt} {g:Nat} {Q:Unit->SortSt->Prop} (h:Q () (setGal st g)):wpS (model prog w) A E s (setMin' g) Q st:=by
 rw[setMin'_eq]; exact wpS_modify h
theorem wpS_mergeLo (hL:LtOk prog w A E s κ kd) {st:SortSt} {a b:Array Keyed} {Q:Array Keyed->SortSt->Prop} (hk:kindOf st=kd) (ka:Keys κ a) (kb:Keys κ b) (sA:Srt κ a.toList) (sB:Srt κ b.toList) (ha:0<a.size) (hb:0<b.size)
  (h1:∀ y∈a.toList,le κ b[0] y) (h2:∀ x∈b.toList,le κ x a[a.size-1]) (h:∀ r st',Res κ a.toList b.toList r->SameSt st st'->Q r st'):wpS (model prog w) A E s (mergeLo' a b) Q st:=by
 have lastOf:∀ i,i+1=a.size->∀ x∈b.toList,∀ y∈a.toList.drop i,le κ x y:=fun i hi x hx y hy=>by
  obtain⟨q,ey⟩:=mem_drop hy
  have hlt:=(List.getElem?_eq_some_iff.mp ey).1
  rw[Array.length_toList] at hlt
  have e:i+q=a.size-1:=by omega
  rw[e,toL (by omega)] at ey
  cases ey
  exact h2 x hx
 have J0:Inv3 κ a.toList b.toList (#[b[0]]:Array Keyed).toList 0 1:=by
  have q:Inv3 κ a.toList b.toList (#[]:Array Keyed).toList 0 0:=⟨Nat.zero_le _,Nat.zero_le _,by simp,List.Pairwise.nil,fun x hx=>by simp at hx,fun x hx=>by simp at hx⟩
  exact Inv3.pushB q sB hb (by simpa using h1)
 show wpS _ _ _ _ (bind _ _) _ _
 refine wpS_bind (wpS_lift (wpAny_rule ⟨rfl,?_⟩))
 dsimp only
 refine wpS_bind (wpS_elem hb ?_)
 by_cases e1:1=b.size
 ·rw[if_pos (beq_iff_eq.mpr e1)]
  exact wpS_pure (h _ _ (J0.done sA sB (.inr e1)) (.refl _))
 rw[if_neg (fun z=>e1 (beq_iff_eq.mp z))]
 by_cases e2:0+1=a.size
 ·rw[if_pos (beq_iff_eq.mpr e2)]
  exact wpS_pure (h _ _ (J0.last sB sA (lastOf 0 e2)) (.refl _))
 rw[if_neg (fun z=>e2 (beq_iff_eq.mp z))]
 refine wpS_bind (wpS_get ?_)
 refine wpS_bind (wpS_mono (wpS_forRange (I:=fun x c st'=>SameSt st st'/\∃ out ia ib mg,c=(none,out,ia,ib,mg)/\Inv3 κ a.toList b.toList out.toList ia ib/\ia+1<a.size/\ib<b.size/\x<=ia+ib)
  (Q:=fun c st'=>SameSt st st'/\∃ r,c.1=some r/\Res κ a.toList b.toList r) ?_ ?_ ⟨.refl _,_,_,_,_,rfl,J0,by omega,by omega,by omega⟩) ?_)
 ·rintro x c st1 _ hx ⟨hss,out0,ia0,ib0,mg0,rfl,J,ia1',ib1',hx'⟩
  dsimp only
  refine wpS_bind (wpS_mono (wpS_forRange (I:=fun y c st2=>SameSt st st2/\∃ out ia ib ac bc,c=(none,out,ia,ib,ac,bc)/\Inv3 κ a.toList b.toList out.toList ia ib/\ia+1<a.size/\ib<b.size/\ia0+ib0+y<=ia+ib)
   (Q:=fun c st2=>SameSt st st2/\((∃ r,c.1=some r/\Res κ a.toList b.toList r)\/∃ out ia ib ac bc,c=(none,out,ia,ib,ac,bc)/\Inv3 κ a.toList b.toList out.toList ia ib/\ia+1<a.size/\ib<b.size/\ia0+ib0+1<=ia+ib)) ?_ ?_ ⟨hss,_,_,_,_,_,rfl,J,ia1',ib1',by omega⟩) ?_)
  ·clear hss J
   rintro y c st2 _ hy ⟨hss,out,ia,ib,ac,bc,rfl,J,hia,hib,hn⟩
   dsimp only
   refine wpS_bind (wpS_elem hib ?_)
   refine wpS_bind (wpS_elem (show ia<a.size by omega) ?_)
   refine wpS_bind (hL _ _ _ _ (hss.kind.trans hk) (kb _ _ (Array.getElem?_eq_getElem hib)) (ka _ _ (Array.getElem?_eq_getElem (by omega))) ?_)
   dsimp only
   cases q:κ.blt (kk κ b[ib]) (kk κ a[ia]) with
   | true=>
    simp only[if_true]
    refine wpS_bind (wpS_elem hib ?_)
    have JB:Inv3 κ a.toList b.toList (out.push b[ib]).toList ia (ib+1):=Inv3.pushB J sB hib fun y hy=>le_trans (le_of_lt q) (head_le sA (by omega) y hy)
    by_cases e3:ib+1=b.size
    ·rw[if_pos (beq_iff_eq.mpr e3)]
     exact wpS_pure ⟨hss,.inl ⟨_,rfl,JB.done sA sB (.inr e3)⟩⟩
    ·rw[if_neg (fun z=>e3 (beq_iff_eq.mp z))]
     split
     ·exact wpS_pure ⟨hss,.inr ⟨_,_,_,_,_,rfl,JB,hia,by omega,by omega⟩⟩
     ·exact wpS_pure ⟨hss,_,_,_,_,_,rfl,JB,hia,by omega,by omega⟩
   | false=>
    simp only[Bool.false_eq_true,if_false]
    refine wpS_bind (wpS_elem (show ia<a.size by omega) ?_)
    have JA:Inv3 κ a.toList b.toList (out.push a[ia]).toList (ia+1) ib:=Inv3.pushA J sA (by omega) fun y hy=>le_trans (le_of_not q) (head_le sB hib y hy)
    by_cases e3:ia+1+1=a.size
    ·rw[if_pos (beq_iff_eq.mpr e3)]
     exact wpS_pure ⟨hss,.inl ⟨_,rfl,JA.last sB sA (lastOf _ e3)⟩⟩
    ·rw[if_neg (fun z=>e3 (beq_iff_eq.mp z))]
     split
     ·exact wpS_pure ⟨hss,.inr ⟨_,_,_,_,_,rfl,JA,by omega,hib,by omega⟩⟩
     ·exact wpS_pure ⟨hss,_,_,_,_,_,rfl,JA,by omega,hib,by omega⟩
  ·rintro c st2 ⟨_,out,ia,ib,ac,bc,rfl,J,hia,hib,hn⟩
   omega
  ·rintro c st2 ⟨hss,h3⟩
   rcases h3 with ⟨r,hr,hres⟩ | ⟨out,ia,ib,ac,bc,rfl,J,hia,hib,hn⟩
   ·obtain⟨c1,c2⟩:=c
    dsimp only at hr
    subst hr
    exact wpS_pure ⟨hss,r,rfl,hres⟩
   ·dsimp only
    refine wpS_bind (wpS_lift (wpAny_rule ⟨rfl,?_⟩))
    refine wpS_bind (wpS_mono (wpS_forRange (I:=fun y c st2=>SameSt st st2/\∃ out ia ib mg ac bc,c=(none,out,ia,ib,mg,ac,bc)/\Inv3 κ a.toList b.toList out.toList ia ib/\ia+1<a.size/\ib<b.size/\ia0+ib0+1<=ia+ib/\y<=ia+ib)
     (Q:=fun c st2=>SameSt st st2/\((∃ r,c.1=some r/\Res κ a.toList b.toList r)\/∃ out ia ib mg ac bc,c=(none,out,ia,ib,mg,ac,bc)/\Inv3 κ a.toList b.toList out.toList ia ib/\ia+1<a.size/\ib<b.size/\ia0+ib0+1<=ia+ib)) ?_ ?_ ⟨hss,_,_,_,_,_,_,rfl,J,hia,hib,hn,by omega⟩) ?_)
    ·clear hss J hia hib hn out ia ib
     rintro y c st2 _ hy ⟨hss,out,ia,ib,mg,ac,bc,rfl,J0',hia,hib,hn,hn2⟩
     dsimp only
     revert mg
     refine wpS_jp _ (fun m=>rfl) (fun m=>rfl) fun mg=>?_
     all_goals
      refine wpS_bind (wpS_setMin ?_)
      refine wpS_bind (wpS_elem hib ?_)
      refine wpS_bind (wpS_gallop hL ((hss.gal _).kind.trans hk) (kb _ _ (Array.getElem?_eq_getElem hib)) ka (by omega) (by omega) (srt_seg sA (by omega)) fun k hk1 pk nk=>?_)
      dsimp only
      have le1:∀ x∈(a.toList.drop ia).take k,∀ y∈b.toList.drop ib,le κ x y:=fun x hx y hy=>by
       obtain⟨q,hq,ex⟩:=mem_drop_take hx
       have:=pk q hq
       rw[KK_get (show a[ia+q]?=some x by rw[<-Array.getElem?_toList]; exact ex)] at this
       exact le_trans (le_of_not (by simpa [byd] using this)) (head_le sB hib y hy)
      have gt1:∀ y∈a.toList.drop (ia+k),le κ b[ib] y:=fun y hy=>by
       obtain⟨q,ey⟩:=mem_drop hy
       have hlt:=(List.getElem?_eq_some_iff.mp ey).1
       rw[Array.length_toList] at hlt
       have:=nk (k+q) (Nat.le_add_right _ _) (by omega)
       rw[KK_get (show a[ia+(k+q)]?=some y by rw[<-Array.getElem?_toList,← Nat.add_assoc]; exact ey)] at this
       exact le_of_lt (by simpa [byd] using this)
      by_cases hk0:k>0
      ·rw[if_pos hk0]
       have J:=Inv3.appA J0' sA (k:=k) (by omega) le1
       by_cases e3:ia+k+1=a.size
       ·rw[if_pos (beq_iff_eq.mpr e3)]
        exact wpS_pure ⟨hss.gal _,.inl ⟨_,rfl,J.last sB sA (lastOf _ e3)⟩⟩
       rw[if_neg (fun z=>e3 (beq_iff_eq.mp z))]
       by_cases e3':ia+k=a.size
       ·rw[if_pos (beq_iff_eq.mpr e3')]
        exact wpS_pure ⟨hss.gal _,.inl ⟨_,rfl,J.done sA sB (.inl e3')⟩⟩
       rw[if_neg (fun z=>e3' (beq_iff_eq.mp z))]
       have J2:=gt1
       refine wpS_bind (wpS_elem (show ib<b.size by omega) ?_)
       have JB:Inv3 κ a.toList b.toList ((out++a.extract ia (ia+k)).push b[ib]).toList (ia+k) (ib+1):=Inv3.pushB J sB (by omega) J2
       by_cases e3:ib+1=b.size
       ·rw[if_pos (beq_iff_eq.mpr e3)]
        exact wpS_pure ⟨hss.gal _,.inl ⟨_,rfl,JB.done sA sB (.inr e3)⟩⟩
       ·rw[if_neg (fun z=>e3 (beq_iff_eq.mp z))]
        refine wpS_bind (wpS_elem (show (ia+k)<a.size by omega) ?_)
        refine wpS_bind (wpS_gallop hL ((hss.gal _).kind.trans hk) (ka _ _ (Array.getElem?_eq_getElem (by omega))) kb (by omega) (by omega) (srt_seg sB (by omega)) fun k2 hk2 p2 n2=>?_)
        dsimp only
        have lt2:∀ x∈(b.toList.drop (ib+1)).take k2,∀ y∈a.toList.drop (ia+k),le κ x y:=fun x hx y hy=>by
         obtain⟨q,hq,ex⟩:=mem_drop_take hx
         have:=p2 q hq
         rw[KK_get (show b[ib+1+q]?=some x by rw[<-Array.getElem?_toList]; exact ex)] at this
         have hlt9:(ia+k)<a.size:=by omega
         exact le_trans (le_of_lt (by simpa [byd] using this)) (head_le sA hlt9 y hy)
        have ge2:∀ y∈b.toList.drop (ib+1+k2),le κ a[(ia+k)] y:=fun y hy=>by
         obtain⟨q,ey⟩:=mem_drop hy
         have hlt:=(List.getElem?_eq_some_iff.mp ey).1
         rw[Array.length_toList] at hlt
         have:=n2 (k2+q) (Nat.le_add_right _ _) (by omega)
         rw[KK_get (show b[ib+1+(k2+q)]?=some y by rw[<-Array.getElem?_toList,← Nat.add_assoc]; exact ey)] at this
         exact le_of_not (by simpa [byd] using this)
        by_cases hk20:k2>0
        ·rw[if_pos hk20]
         have JC:=Inv3.appB JB sB (k:=k2) (by omega) lt2
         by_cases e4:ib+1+k2=b.size
         ·rw[if_pos (beq_iff_eq.mpr e4)]
          exact wpS_pure ⟨hss.gal _,.inl ⟨_,rfl,JC.done sA sB (.inr e4)⟩⟩
         ·rw[if_neg (fun z=>e4 (beq_iff_eq.mp z))]
          have KJ:=JC
          have KB:=ge2
          refine wpS_bind (wpS_elem (show (ia+k)<a.size by omega) ?_)
          have JA:Inv3 κ a.toList b.toList (((out++a.extract ia (ia+k)).push b[ib]++b.extract (ib+1) (ib+1+k2)).push a[(ia+k)]).toList ((ia+k)+1) (ib+1+k2):=Inv3.pushA KJ sA (by omega) KB
          by_cases e5:(ia+k)+1+1=a.size
          ·rw[if_pos (beq_iff_eq.mpr e5)]
           exact wpS_pure ⟨hss.gal _,.inl ⟨_,rfl,JA.last sB sA (lastOf _ e5)⟩⟩
          ·rw[if_neg (fun z=>e5 (beq_iff_eq.mp z))]
           split
           ·exact wpS_pure ⟨hss.gal _,.inr ⟨_,_,_,_,_,_,rfl,JA,by omega,by omega,by omega⟩⟩
           ·exact wpS_pure ⟨hss.gal _,_,_,_,_,_,_,rfl,JA,by omega,by omega,by omega,by omega⟩
        ·rw[if_neg hk20]
         have hk00:k2=0:=by omega
         subst hk00
         have KJ:=JB
         have KB:∀ y∈b.toList.drop (ib+1),le κ a[(ia+k)] y:=ge2
         refine wpS_bind (wpS_elem (show (ia+k)<a.size by omega) ?_)
         have JA:Inv3 κ a.toList b.toList (((out++a.extract ia (ia+k)).push b[ib]).push a[(ia+k)]).toList ((ia+k)+1) (ib+1):=Inv3.pushA KJ sA (by omega) KB
         by_cases e5:(ia+k)+1+1=a.size
         ·rw[if_pos (beq_iff_eq.mpr e5)]
          exact wpS_pure ⟨hss.gal _,.inl ⟨_,rfl,JA.last sB sA (lastOf _ e5)⟩⟩
         ·rw[if_neg (fun z=>e5 (beq_iff_eq.mp z))]
          split
          ·exact wpS_pure ⟨hss.gal _,.inr ⟨_,_,_,_,_,_,rfl,JA,by omega,by omega,by omega⟩⟩
          ·exact wpS_pure ⟨hss.gal _,_,_,_,_,_,_,rfl,JA,by omega,by omega,by omega,by omega⟩
      ·rw[if_neg hk0]
       have hk00:k=0:=by omega
       subst hk00
       have J:=J0'
       have J2:∀ y∈a.toList.drop ia,le κ b[ib] y:=gt1
       refine wpS_bind (wpS_elem (show ib<b.size by omega) ?_)
       have JB:Inv3 κ a.toList b.toList (out.push b[ib]).toList ia (ib+1):=Inv3.pushB J sB (by omega) J2
       by_cases e3:ib+1=b.size
       ·rw[if_pos (beq_iff_eq.mpr e3)]
        exact wpS_pure ⟨hss.gal _,.inl ⟨_,rfl,JB.done sA sB (.inr e3)⟩⟩
       ·rw[if_neg (fun z=>e3 (beq_iff_eq.mp z))]
        refine wpS_bind (wpS_elem (show ia<a.size by omega) ?_)
        refine wpS_bind (wpS_gallop hL ((hss.gal _).kind.trans hk) (ka _ _ (Array.getElem?_eq_getElem (by omega))) kb (by omega) (by omega) (srt_seg sB (by omega)) fun k2 hk2 p2 n2=>?_)
        dsimp only
        have lt2:∀ x∈(b.toList.drop (ib+1)).take k2,∀ y∈a.toList.drop ia,le κ x y:=fun x hx y hy=>by
         obtain⟨q,hq,ex⟩:=mem_drop_take hx
         have:=p2 q hq
         rw[KK_get (show b[ib+1+q]?=some x by rw[<-Array.getElem?_toList]; exact ex)] at this
         have hlt9:ia<a.size:=by omega
         exact le_trans (le_of_lt (by simpa [byd] using this)) (head_le sA hlt9 y hy)
        have ge2:∀ y∈b.toList.drop (ib+1+k2),le κ a[ia] y:=fun y hy=>by
         obtain⟨q,ey⟩:=mem_drop hy
         have hlt:=(List.getElem?_eq_some_iff.mp ey).1
         rw[Array.length_toList] at hlt
         have:=n2 (k2+q) (Nat.le_add_right _ _) (by omega)
         rw[KK_get (show b[ib+1+(k2+q)]?=some y by rw[<-Array.getElem?_toList,← Nat.add_assoc]; exact ey)] at this
         exact le_of_not (by simpa [byd] using this)
        by_cases hk20:k2>0
        ·rw[if_pos hk20]
         have JC:=Inv3.appB JB sB (k:=k2) (by omega) lt2
         by_cases e4:ib+1+k2=b.size
         ·rw[if_pos (beq_iff_eq.mpr e4)]
          exact wpS_pure ⟨hss.gal _,.inl ⟨_,rfl,JC.done sA sB (.inr e4)⟩⟩
         ·rw[if_neg (fun z=>e4 (beq_iff_eq.mp z))]
          have KJ:=JC
          have KB:=ge2
          refine wpS_bind (wpS_elem (show ia<a.size by omega) ?_)
          have JA:Inv3 κ a.toList b.toList ((out.push b[ib]++b.extract (ib+1) (ib+1+k2)).push a[ia]).toList (ia+1) (ib+1+k2):=Inv3.pushA KJ sA (by omega) KB
          by_cases e5:ia+1+1=a.size
          ·rw[if_pos (beq_iff_eq.mpr e5)]
           exact wpS_pure ⟨hss.gal _,.inl ⟨_,rfl,JA.last sB sA (lastOf _ e5)⟩⟩
          ·rw[if_neg (fun z=>e5 (beq_iff_eq.mp z))]
           split
           ·exact wpS_pure ⟨hss.gal _,.inr ⟨_,_,_,_,_,_,rfl,JA,by omega,by omega,by omega⟩⟩
           ·exact wpS_pure ⟨hss.gal _,_,_,_,_,_,_,rfl,JA,by omega,by omega,by omega,by omega⟩
        ·rw[if_neg hk20]
         have hk00:k2=0:=by omega
         subst hk00
         have KJ:=JB
         have KB:∀ y∈b.toList.drop (ib+1),le κ a[ia] y:=ge2
         refine wpS_bind (wpS_elem (show ia<a.size by omega) ?_)
         have JA:Inv3 κ a.toList b.toList ((out.push b[ib]).push a[ia]).toList (ia+1) (ib+1):=Inv3.pushA KJ sA (by omega) KB
         by_cases e5:ia+1+1=a.size
         ·rw[if_pos (beq_iff_eq.mpr e5)]
          exact wpS_pure ⟨hss.gal _,.inl ⟨_,rfl,JA.last sB sA (lastOf _ e5)⟩⟩
         ·rw[if_neg (fun z=>e5 (beq_iff_eq.mp z))]
          split
          ·exact wpS_pure ⟨hss.gal _,.inr ⟨_,_,_,_,_,_,rfl,JA,by omega,by omega,by omega⟩⟩
          ·exact wpS_pure ⟨hss.gal _,_,_,_,_,_,_,rfl,JA,by omega,by omega,by omega,by omega⟩
    ·rintro c st2 ⟨_,out,ia,ib,mg,ac,bc,rfl,J,hia,hib,hn,hn2⟩
     omega
    ·rintro c st2 ⟨hss,h3⟩
     rcases h3 with ⟨r,hr,hres⟩ | ⟨out,ia,ib,mg,ac,bc,rfl,J,hia,hib,hn⟩
     ·obtain⟨c1,c2⟩:=c
      dsimp only at hr
      subst hr
      exact wpS_pure ⟨hss,r,rfl,hres⟩
     ·dsimp only
      refine wpS_bind (wpS_setMin ?_)
      exact wpS_pure ⟨hss.gal _,_,_,_,_,rfl,J,hia,hib,by omega⟩
 ·rintro c st1 ⟨_,out,ia,ib,mg,rfl,J,hia,hib,hn⟩
  omega
 ·rintro c st1 ⟨hss,r,hr,hres⟩
  obtain⟨c1,c2⟩:=c
  dsimp only at hr
  subst hr
  exact wpS_pure (h r st1 hres hss)
end
end Tim
namespace Tim
open PySem PyProof.Rows
section
variable {κ:KeyKind}
theorem mem_take_drop {A:List Keyed} {i k:Nat} {x:Keyed} (h:x∈(A.take i).drop k):∃ j,k<=j/\j<i/\A[j]?=some x:=by
 obtain⟨j,hj,e⟩:=List.mem_iff_getElem.mp h
 rw[List.length_drop,List.length_take] at hj
 rw[List.getElem_drop,List.getElem_take] at e
 exact⟨k+j,by omega,by omega,by rw[List.getElem?_eq_getElem (by omega),e]⟩
theorem mem_take {A:List Keyed} {i:Nat} {x:Keyed} (h:x∈A.take i):∃ j,j<i/\A[j]?=some x:=by
 obtain⟨j,_,h2,h3⟩:=mem_take_drop (k:=0) (by simpa using h)
 exact⟨j,h2,h3⟩
theorem last_le {a:Array Keyed} (s:Srt κ a.toList) {i:Nat} (h:i<a.size):∀ y∈a.toList.take (i+1),le κ y a[i]:=fun y hy=>by
 obtain⟨j,h1,h2⟩:=mem_take hy
 exact srt_get s (by omega) h2 (toL h)
theorem take_one {a:Array Keyed} {i:Nat} (h:i<a.size):(a.toList.take (i+1)).drop i=[a[i]]:=by
 rw[List.take_succ_eq_append_getElem (by simpa using h),List.drop_append_of_le_length (by simp; omega)]
 simp
theorem Inv4.pushA {a b out:Array Keyed} {i j:Nat} (h:Inv4 κ a.toList b.toList out.toList.reverse (i+1) j) (sA:Srt κ a.toList) (hi:i<a.size) (hb:∀ y∈b.toList.take j,le κ y a[i]):Inv4 κ a.toList b.toList (out.push a[i]).toList.reverse i j:=by
 rw[Array.toList_push,List.reverse_append,List.reverse_singleton,← take_one hi]
 refine h.takeA sA (Nat.le_succ _) fun x hx y hy=>?_
 rw[take_one hi] at hx
 rw[List.mem_singleton.mp hx]
 exact hb y hy
theorem Inv4.pushB {a b out:Array Keyed} {i j:Nat} (h:Inv4 κ a.toList b.toList out.toList.reverse i (j+1)) (sB:Srt κ b.toList) (hj:j<b.size) (hb:∀ y∈a.toList.take i,le κ y b[j]):Inv4 κ a.toList b.toList (out.push b[j]).toList.reverse i j:=
 (h.swap.pushA sB hj hb).swap
theorem ext_rev {a out:Array Keyed} {i k:Nat}:(out++(a.extract k i).reverse).toList.reverse=(a.toList.take i).drop k++out.toList.reverse:=by
 rw[Array.toList_append,Array.toList_reverse,List.reverse_append,List.reverse_reverse,ext_toList,List.drop_take]
theorem Inv4.appA {a b out:Array Keyed} {i j k:Nat} (h:Inv4 κ a.toList b.toList out.toList.reverse i j) (sA:Srt κ a.toList) (hk:k<=i) (hb:∀ x∈(a.toList.take i).drop k,∀ y∈b.toList.take j,le κ y x) :
  Inv4 κ a.toList b.toList (out++(a.extract k i).reverse).toList.reverse k j:=by
 rw[ext_rev]
 exact h.takeA sA hk hb
theorem Inv4.appB {a b out:Array Keyed} {i j k:Nat} (h:Inv4 κ a.toList b.toList out.toList.reverse i j) (sB:Srt κ b.toList) (hk:k<=j) (hb:∀ x∈(b.toList.take j).drop k,∀ y∈a.toList.take i,le κ y x) :
  Inv4 κ a.toList b.toList (out++(b.extract k j).reverse).toList.reverse i k:=(h.swap.appA sB hk hb).swap
end
section
variable {prog:Program} {w:World} {A:Around} {E:Value->Shared->Prop} {s:Shared} {κ:KeyKind} {kd:SortKind}
theorem wpS_mergeHi (hL:LtOk prog w A E s κ kd) {st:SortSt} {a b:Array Keyed} {Q:Array Keyed->SortSt->Prop} (hk:kindOf st=kd) (ka:Keys κ a) (kb:Keys κ b) (sA:Srt κ a.toList) (sB:Srt κ b.toList) (ha:0<a.size) (hb:0<b.size)
  (h1:∀ y∈a.toList,le κ b[0] y) (h2:∀ x∈b.toList,le κ x a[a.size-1]) (h:∀ r st',Res κ a.toList b.toList r->SameSt st st'->Q r st'):wpS (model prog w) A E s (mergeHi' a b) Q st:=by
 have firstOf:∀ x∈b.toList.take 1,∀ y∈a.toList,le κ x y:=fun x hx y hy=>by
  obtain⟨j,hj,ex⟩:=mem_take hx
  have e:j=0:=by omega
  subst e
  rw[toL hb] at ex
  cases ex
  exact h1 y hy
 have J0:Inv4 κ a.toList b.toList (#[a[a.size-1]]:Array Keyed).toList.reverse (a.size-1) b.size:=by
  have q:Inv4 κ a.toList b.toList (#[]:Array Keyed).toList.reverse (a.size-1+1) b.size:=⟨by simp; omega,by simp,by
   have e1:a.toList.drop (a.size-1+1)=[]:=List.drop_eq_nil_of_le (by simp; omega)
   have e2:b.toList.drop b.size=[]:=List.drop_eq_nil_of_le (by simp)
   rw[e1,e2]; simp,List.Pairwise.nil,fun x hx=>by simp at hx,fun x hx=>by simp at hx⟩
  exact Inv4.pushA q sA (by omega) fun y hy=>h2 y (List.mem_of_mem_take hy)
 show wpS _ _ _ _ (bind _ _) _ _
 refine wpS_bind (wpS_lift (wpAny_rule ⟨rfl,?_⟩))
 dsimp only
 refine wpS_bind (wpS_elem (show a.size-1<a.size by omega) ?_)
 by_cases e1:a.size-1=0
 ·rw[if_pos (beq_iff_eq.mpr e1)]
  exact wpS_pure (h _ _ (J0.done sA sB (.inl e1)) (.refl _))
 rw[if_neg (fun z=>e1 (beq_iff_eq.mp z))]
 by_cases e2:b.size=1
 ·rw[if_pos (beq_iff_eq.mpr e2)]
  exact wpS_pure (h _ _ (J0.first sA sB (by rw[e2]; exact firstOf)) (.refl _))
 rw[if_neg (fun z=>e2 (beq_iff_eq.mp z))]
 refine wpS_bind (wpS_get ?_)
 refine wpS_bind (wpS_mono (wpS_forRange (I:=fun x c st'=>SameSt st st'/\∃ (na nb:Nat) (out:Array Keyed) (mg:Nat),c=(none,na,nb,out,mg)/\Inv4 κ a.toList b.toList out.toList.reverse na nb/\0<na/\1<nb/\x+na+nb<a.size+b.size)
  (Q:=fun c st'=>SameSt st st'/\∃ r,c.1=some r/\Res κ a.toList b.toList r) ?_ ?_ ⟨.refl _,_,_,_,_,rfl,J0,by omega,by omega,by omega⟩) ?_)
 ·rintro x c st1 _ hx ⟨hss,na0,nb0,out0,mg0,rfl,J,na1',nb1',hx'⟩
  have hna0:na0<=a.size:=by simpa using J.hi
  have hnb0:nb0<=b.size:=by simpa using J.hj
  dsimp only
  refine wpS_bind (wpS_mono (wpS_forRange (I:=fun y c st2=>SameSt st st2/\∃ (na nb:Nat) (out:Array Keyed) (ac bc:Nat),c=(none,na,nb,out,ac,bc)/\Inv4 κ a.toList b.toList out.toList.reverse na nb/\0<na/\1<nb/\na+nb+y<=na0+nb0)
   (Q:=fun c st2=>SameSt st st2/\((∃ r,c.1=some r/\Res κ a.toList b.toList r)\/∃ (na nb:Nat) (out:Array Keyed) (ac bc:Nat),c=(none,na,nb,out,ac,bc)/\Inv4 κ a.toList b.toList out.toList.reverse na nb/\0<na/\1<nb/\na+nb+1<=na0+nb0)) ?_ ?_ ⟨hss,_,_,_,_,_,rfl,J,na1',nb1',by omega⟩) ?_)
  ·clear hss J
   rintro y c st2 _ hy ⟨hss,na,nb,out,ac,bc,rfl,J,hna,hnb,hn⟩
   have la:na<=a.size:=by simpa using J.hi
   have lb:nb<=b.size:=by simpa using J.hj
   obtain⟨i,rfl⟩ : ∃ i,na=i+1:=⟨na-1,by omega⟩
   obtain⟨j,rfl⟩ : ∃ j,nb=j+1:=⟨nb-1,by omega⟩
   dsimp only[Nat.add_one_sub_one]
   refine wpS_bind (wpS_elem (show j<b.size by omega) ?_)
   refine wpS_bind (wpS_elem (show i<a.size by omega) ?_)
   refine wpS_bind (hL _ _ _ _ (hss.kind.trans hk) (kb _ _ (Array.getElem?_eq_getElem (by omega))) (ka _ _ (Array.getElem?_eq_getElem (by omega))) ?_)
   dsimp only
   cases q:κ.blt (kk κ b[j]) (kk κ a[i]) with
   | true=>
    rw[if_pos rfl]
    refine wpS_bind (wpS_elem (show i<a.size by omega) ?_)
    have JA:Inv4 κ a.toList b.toList (out.push a[i]).toList.reverse i (j+1):=Inv4.pushA J sA (by omega) fun y hy=>le_trans (last_le sB (by omega) y hy) (le_of_lt q)
    by_cases e3:i=0
    ·rw[if_pos (beq_iff_eq.mpr e3)]
     exact wpS_pure ⟨hss,.inl ⟨_,rfl,JA.done sA sB (.inl e3)⟩⟩
    ·rw[if_neg (fun z=>e3 (beq_iff_eq.mp z))]
     split
     ·exact wpS_pure ⟨hss,.inr ⟨_,_,_,_,_,rfl,JA,by omega,hnb,by omega⟩⟩
     ·exact wpS_pure ⟨hss,_,_,_,_,_,rfl,JA,by omega,hnb,by omega⟩
   | false=>
    rw[if_neg Bool.false_ne_true]
    refine wpS_bind (wpS_elem (show j<b.size by omega) ?_)
    have JB:Inv4 κ a.toList b.toList (out.push b[j]).toList.reverse (i+1) j:=Inv4.pushB J sB (by omega) fun y hy=>le_trans (last_le sA (by omega) y hy) (le_of_not q)
    by_cases e3:j=1
    ·rw[if_pos (beq_iff_eq.mpr e3)]
     exact wpS_pure ⟨hss,.inl ⟨_,rfl,JB.first sA sB (by rw[e3]; exact firstOf)⟩⟩
    ·rw[if_neg (fun z=>e3 (beq_iff_eq.mp z))]
     split
     ·exact wpS_pure ⟨hss,.inr ⟨_,_,_,_,_,rfl,JB,hna,by omega,by omega⟩⟩
     ·exact wpS_pure ⟨hss,_,_,_,_,_,rfl,JB,hna,by omega,by omega⟩
  ·rintro c st2 ⟨_,na,nb,out,ac,bc,rfl,J,hna,hnb,hn⟩
   omega
  ·rintro c st2 ⟨hss,h3⟩
   rcases h3 with ⟨r,hr,hres⟩ | ⟨na,nb,out,ac,bc,rfl,J,hna,hnb,hn⟩
   ·obtain⟨c1,c2⟩:=c
    dsimp only at hr
    subst hr
    exact wpS_pure ⟨hss,r,rfl,hres⟩
   ·dsimp only
    refine wpS_bind (wpS_lift (wpAny_rule ⟨rfl,?_⟩))
    refine wpS_bind (wpS_mono (wpS_forRange (I:=fun y c st2=>SameSt st st2/\∃ (na nb:Nat) (out:Array Keyed) (mg ac bc:Nat),c=(none,na,nb,out,mg,ac,bc)/\Inv4 κ a.toList b.toList out.toList.reverse na nb/\0<na/\1<nb/\na+nb+1<=na0+nb0/\y+na+nb<=na0+nb0)
     (Q:=fun c st2=>SameSt st st2/\((∃ r,c.1=some r/\Res κ a.toList b.toList r)\/∃ (na nb:Nat) (out:Array Keyed) (mg ac bc:Nat),c=(none,na,nb,out,mg,ac,bc)/\Inv4 κ a.toList b.toList out.toList.reverse na nb/\0<na/\1<nb/\na+nb+1<=na0+nb0)) ?_ ?_ ⟨hss,_,_,_,_,_,_,rfl,J,hna,hnb,hn,by omega⟩) ?_)
    ·clear hss J hna hnb hn out na nb
     rintro y c st2 _ hy ⟨hss,na,nb,out,mg,ac,bc,rfl,J0',hna,hnb,hn,hn2⟩
     have la:na<=a.size:=by simpa using J0'.hi
     have lb:nb<=b.size:=by simpa using J0'.hj
     obtain⟨j,rfl⟩ : ∃ j,nb=j+1:=⟨nb-1,by omega⟩
     dsimp only
     revert mg
     refine wpS_jp _ (fun m=>rfl) (fun m=>rfl) fun mg=>?_
     all_goals
      refine wpS_bind (wpS_setMin ?_)
      dsimp only[Nat.add_one_sub_one]
      refine wpS_bind (wpS_elem (show j<b.size by omega) ?_)
      refine wpS_bind (wpS_gallop hL ((hss.gal _).kind.trans hk) (kb _ _ (Array.getElem?_eq_getElem (by omega))) ka (by omega) (by omega) (srt_seg sA (by omega)) fun k hk1 pk nk=>?_)
      dsimp only
      have gt1:∀ x∈(a.toList.take na).drop k,∀ y∈b.toList.take (j+1),le κ y x:=fun x hx y hy=>by
       obtain⟨q,hq1,hq2,ex⟩:=mem_take_drop hx
       have:=nk q hq1 hq2
       rw[KK_get (show a[0+q]?=some x by rw[Nat.zero_add,← Array.getElem?_toList]; exact ex)] at this
       exact le_trans (last_le sB (by omega) y hy) (le_of_lt (by simpa [byd] using this))
      have le1:∀ y∈a.toList.take k,le κ y b[j]:=fun y hy=>by
       obtain⟨q,hq,ey⟩:=mem_take hy
       have:=pk q hq
       rw[KK_get (show a[0+q]?=some y by rw[Nat.zero_add,← Array.getElem?_toList]; exact ey)] at this
       exact le_of_not (by simpa [byd] using this)
      by_cases hk0:na-k>0
      ·rw[if_pos hk0]
       have J:=Inv4.appA J0' sA hk1 gt1
       by_cases e3:k=0
       ·rw[if_pos (beq_iff_eq.mpr e3)]
        exact wpS_pure ⟨hss.gal _,.inl ⟨_,rfl,J.done sA sB (.inl e3)⟩⟩
       rw[if_neg (fun z=>e3 (beq_iff_eq.mp z))]
       refine wpS_bind (wpS_elem (show j<b.size by omega) ?_)
       have JB:Inv4 κ a.toList b.toList ((out++(a.extract k na).reverse).push b[j]).toList.reverse k j:=Inv4.pushB J sB (by omega) le1
       by_cases e4:j=1
       ·rw[if_pos (beq_iff_eq.mpr e4)]
        exact wpS_pure ⟨hss.gal _,.inl ⟨_,rfl,JB.first sA sB (by rw[e4]; exact firstOf)⟩⟩
       rw[if_neg (fun z=>e4 (beq_iff_eq.mp z))]
       obtain⟨i,hi⟩ : ∃ i,k=i+1:=⟨k-1,by omega⟩
       subst hi
       dsimp only[Nat.add_one_sub_one]
       refine wpS_bind (wpS_elem (show i<a.size by omega) ?_)
       refine wpS_bind (wpS_gallop hL ((hss.gal _).kind.trans hk) (ka _ _ (Array.getElem?_eq_getElem (by omega))) kb (by omega) (by omega) (srt_seg sB (by omega)) fun k2 hk2 p2 n2=>?_)
       dsimp only
       have ge2:∀ x∈(b.toList.take j).drop k2,∀ y∈a.toList.take (i+1),le κ y x:=fun x hx y hy=>by
        obtain⟨q,hq1,hq2,ex⟩:=mem_take_drop hx
        have:=n2 q hq1 hq2
        rw[KK_get (show b[0+q]?=some x by rw[Nat.zero_add,← Array.getElem?_toList]; exact ex)] at this
        exact le_trans (last_le sA (by omega) y hy) (le_of_not (by simpa [byd] using this))
       have lt2:∀ y∈b.toList.take k2,le κ y a[i]:=fun y hy=>by
        obtain⟨q,hq,ey⟩:=mem_take hy
        have:=p2 q hq
        rw[KK_get (show b[0+q]?=some y by rw[Nat.zero_add,← Array.getElem?_toList]; exact ey)] at this
        exact le_of_lt (by simpa [byd] using this)
       by_cases hk20:j-k2>0
       ·rw[if_pos hk20]
        have JC:=Inv4.appB JB sB hk2 ge2
        by_cases e6:k2=1
        ·rw[if_pos (beq_iff_eq.mpr e6)]
         exact wpS_pure ⟨hss.gal _,.inl ⟨_,rfl,JC.first sA sB (by rw[e6]; exact firstOf)⟩⟩
        rw[if_neg (fun z=>e6 (beq_iff_eq.mp z))]
        by_cases e7:k2=0
        ·rw[if_pos (beq_iff_eq.mpr e7)]
         exact wpS_pure ⟨hss.gal _,.inl ⟨_,rfl,JC.done sA sB (.inr e7)⟩⟩
        rw[if_neg (fun z=>e7 (beq_iff_eq.mp z))]
        refine wpS_bind (wpS_elem (show i<a.size by omega) ?_)
        have JA:=Inv4.pushA JC sA (show i<a.size by omega) lt2
        by_cases e5:i=0
        ·rw[if_pos (beq_iff_eq.mpr e5)]
         exact wpS_pure ⟨hss.gal _,.inl ⟨_,rfl,JA.done sA sB (.inl e5)⟩⟩
        ·rw[if_neg (fun z=>e5 (beq_iff_eq.mp z))]
         split
         ·exact wpS_pure ⟨hss.gal _,.inr ⟨_,_,_,_,_,_,rfl,JA,by omega,by omega,by omega⟩⟩
         ·exact wpS_pure ⟨hss.gal _,_,_,_,_,_,_,rfl,JA,by omega,by omega,by omega,by omega⟩
       ·rw[if_neg hk20]
        have ek2:k2=j:=by omega
        subst ek2
        refine wpS_bind (wpS_elem (show i<a.size by omega) ?_)
        have JA:=Inv4.pushA JB sA (show i<a.size by omega) lt2
        by_cases e5:i=0
        ·rw[if_pos (beq_iff_eq.mpr e5)]
         exact wpS_pure ⟨hss.gal _,.inl ⟨_,rfl,JA.done sA sB (.inl e5)⟩⟩
        ·rw[if_neg (fun z=>e5 (beq_iff_eq.mp z))]
         split
         ·exact wpS_pure ⟨hss.gal _,.inr ⟨_,_,_,_,_,_,rfl,JA,by omega,by omega,by omega⟩⟩
         ·exact wpS_pure ⟨hss.gal _,_,_,_,_,_,_,rfl,JA,by omega,by omega,by omega,by omega⟩
      ·rw[if_neg hk0]
       have ek:k=na:=by omega
       subst ek
       refine wpS_bind (wpS_elem (show j<b.size by omega) ?_)
       have JB:Inv4 κ a.toList b.toList (out.push b[j]).toList.reverse k j:=Inv4.pushB J0' sB (by omega) le1
       by_cases e4:j=1
       ·rw[if_pos (beq_iff_eq.mpr e4)]
        exact wpS_pure ⟨hss.gal _,.inl ⟨_,rfl,JB.first sA sB (by rw[e4]; exact firstOf)⟩⟩
       rw[if_neg (fun z=>e4 (beq_iff_eq.mp z))]
       obtain⟨i,hi⟩ : ∃ i,k=i+1:=⟨k-1,by omega⟩
       subst hi
       dsimp only[Nat.add_one_sub_one]
       refine wpS_bind (wpS_elem (show i<a.size by omega) ?_)
       refine wpS_bind (wpS_gallop hL ((hss.gal _).kind.trans hk) (ka _ _ (Array.getElem?_eq_getElem (by omega))) kb (by omega) (by omega) (srt_seg sB (by omega)) fun k2 hk2 p2 n2=>?_)
       dsimp only
       have ge2:∀ x∈(b.toList.take j).drop k2,∀ y∈a.toList.take (i+1),le κ y x:=fun x hx y hy=>by
        obtain⟨q,hq1,hq2,ex⟩:=mem_take_drop hx
        have:=n2 q hq1 hq2
        rw[KK_get (show b[0+q]?=some x by rw[Nat.zero_add,← Array.getElem?_toList]; exact ex)] at this
        exact le_trans (last_le sA (by omega) y hy) (le_of_not (by simpa [byd] using this))
       have lt2:∀ y∈b.toList.take k2,le κ y a[i]:=fun y hy=>by
        obtain⟨q,hq,ey⟩:=mem_take hy
        have:=p2 q hq
        rw[KK_get (show b[0+q]?=some y by rw[Nat.zero_add,← Array.getElem?_toList]; exact ey)] at this
        exact le_of_lt (by simpa [byd] using this)
       by_cases hk20:j-k2>0
       ·rw[if_pos hk20]
        have JC:=Inv4.appB JB sB hk2 ge2
        by_cases e6:k2=1
        ·rw[if_pos (beq_iff_eq.mpr e6)]
         exact wpS_pure ⟨hss.gal _,.inl ⟨_,rfl,JC.first sA sB (by rw[e6]; exact firstOf)⟩⟩
        rw[if_neg (fun z=>e6 (beq_iff_eq.mp z))]
        by_cases e7:k2=0
        ·rw[if_pos (beq_iff_eq.mpr e7)]
         exact wpS_pure ⟨hss.gal _,.inl ⟨_,rfl,JC.done sA sB (.inr e7)⟩⟩
        rw[if_neg (fun z=>e7 (beq_iff_eq.mp z))]
        refine wpS_bind (wpS_elem (show i<a.size by omega) ?_)
        have JA:=Inv4.pushA JC sA (show i<a.size by omega) lt2
        by_cases e5:i=0
        ·rw[if_pos (beq_iff_eq.mpr e5)]
         exact wpS_pure ⟨hss.gal _,.inl ⟨_,rfl,JA.done sA sB (.inl e5)⟩⟩
        ·rw[if_neg (fun z=>e5 (beq_iff_eq.mp z))]
         split
         ·exact wpS_pure ⟨hss.gal _,.inr ⟨_,_,_,_,_,_,rfl,JA,by omega,by omega,by omega⟩⟩
         ·exact wpS_pure ⟨hss.gal _,_,_,_,_,_,_,rfl,JA,by omega,by omega,by omega,by omega⟩
       ·rw[if_neg hk20]
        have ek2:k2=j:=by omega
        subst ek2
        refine wpS_bind (wpS_elem (show i<a.size by omega) ?_)
        have JA:=Inv4.pushA JB sA (show i<a.size by omega) lt2
        by_cases e5:i=0
        ·rw[if_pos (beq_iff_eq.mpr e5)]
         exact wpS_pure ⟨hss.gal _,.inl ⟨_,rfl,JA.done sA sB (.inl e5)⟩⟩
        ·rw[if_neg (fun z=>e5 (beq_iff_eq.mp z))]
         split
         ·exact wpS_pure ⟨hss.gal _,.inr ⟨_,_,_,_,_,_,rfl,JA,by omega,by omega,by omega⟩⟩
         ·exact wpS_pure ⟨hss.gal _,_,_,_,_,_,_,rfl,JA,by omega,by omega,by omega,by omega⟩
    ·rintro c st2 ⟨_,na,nb,out,mg,ac,bc,rfl,J,hna,hnb,hn,hn2⟩
     omega
    ·rintro c st2 ⟨hss,h3⟩
     rcases h3 with ⟨r,hr,hres⟩ | ⟨na,nb,out,mg,ac,bc,rfl,J,hna,hnb,hn⟩
     ·obtain⟨c1,c2⟩:=c
      dsimp only at hr
      subst hr
      exact wpS_pure ⟨hss,r,rfl,hres⟩
     ·dsimp only
      refine wpS_bind (wpS_setMin ?_)
      exact wpS_pure ⟨hss.gal _,_,_,_,_,rfl,J,hna,hnb,by omega⟩
 ·rintro c st1 ⟨_,na,nb,out,mg,rfl,J,hna,hnb,hn⟩
  omega
 ·rintro c st1 ⟨hss,r,hr,hres⟩
  obtain⟨c1,c2⟩:=c
  dsimp only at hr
  subst hr
  exact wpS_pure (h r st1 hres hss)
end
end Tim
namespace Tim
open PySem PyProof.Rows
structure Base (st st':SortSt) (lo hi:Nat):Prop where
 perm:(arrOf st').Perm (arrOf st)
 out:∀ i:Nat,(i<lo\/hi<=i)->(arrOf st')[i]?=(arrOf st)[i]?
 kind:kindOf st'=kindOf st
 failed:failedOf st'=failedOf st
 pend:pendingOf st'=pendingOf st
theorem Base.refl (st:SortSt) (lo hi:Nat):Base st st lo hi:=⟨.refl _,fun _ _=>rfl,rfl,rfl,rfl⟩
theorem Base.size {st st':SortSt} {lo hi:Nat} (h:Base st st' lo hi):(arrOf st').size=(arrOf st).size:=h.perm.size_eq
theorem Base.trans {st st1 st2:SortSt} {lo hi lo1 hi1:Nat} (h:Base st st1 lo hi) (g:Base st1 st2 lo1 hi1) (h1:lo<=lo1) (h2:hi1<=hi):Base st st2 lo hi:=
 ⟨g.perm.trans h.perm,fun i hi'=>(g.out i (by omega)).trans (h.out i hi'),g.kind.trans h.kind,g.failed.trans h.failed,g.pend.trans h.pend⟩
theorem Base.wide {st st1:SortSt} {lo hi lo1 hi1:Nat} (g:Base st st1 lo1 hi1) (h1:lo<=lo1) (h2:hi1<=hi):Base st st1 lo hi:=(Base.refl st lo hi).trans g h1 h2
theorem Base.bubble {st:SortSt} {src d:Nat} (hs:src<(arrOf st).size) (hd:d<=src):Base st (setArr st (PyProof.Rows.bubble (arrOf st) src d)) (src-d) (src+1):=
 ⟨bubble_perm _ _ _,fun i hi=>by
  show (PyProof.Rows.bubble (arrOf st) src d)[i]?=_
  rw[getElem?_bubble hs d hd,if_neg (by omega),if_neg (by omega)],rfl,rfl,rfl⟩
theorem Base.mirror {st:SortSt} {i j:Nat} (hj:j<=(arrOf st).size):Base st (setArr st (PyProof.Rows.mirror (arrOf st) i j ((j-i)/2))) i j:=
 ⟨mirror_perm _ _ _ _,fun k hk=>by
  show (PyProof.Rows.mirror (arrOf st) i j ((j-i)/2))[k]?=_
  rw[getElem?_mirror_all hj,if_neg (by omega)],rfl,rfl,rfl⟩
def NSeg (κ:KeyKind) (a:Array Keyed) (lo hi:Nat):Prop:=∀ i j,lo<=i->i<=j->j<hi->κ.kle (KK κ a j) (KK κ a i)
theorem seg_one {κ:KeyKind} {a:Array Keyed} {lo:Nat}:Seg κ a lo (lo+1):=fun i j h1 h2 h3=>by
 have:i=j:=by omega
 subst this; exact KeyOrd.kle_refl _
section
variable {prog:Program} {w:World} {A:Around} {E:Value->Shared->Prop} {s:Shared} {κ:KeyKind} {kd:SortKind}
theorem wpS_ltAtG (hL:LtOk prog w A E s κ kd) {st:SortSt} {i j:Nat} {Q:Option Bool->SortSt->Prop} (hk:kindOf st=kd) (ka:Keys κ (arrOf st)) (hi:i<(arrOf st).size) (hj:j<(arrOf st).size)
  (h:Q (some (κ.blt (KK κ (arrOf st) i) (KK κ (arrOf st) j))) st):wpS (model prog w) A E s (ltAt' i j) Q st:=by
 rw[ltAt'_eq]
 refine wpS_bind (wpS_get ?_)
 refine wpS_bind (wpS_elem hi (wpS_bind (wpS_elem hj ?_)))
 have e1:=Array.getElem?_eq_getElem hi
 have e2:=Array.getElem?_eq_getElem hj
 rw[KK_get e1,KK_get e2] at h
 exact hL st _ _ _ hk (ka _ _ e1) (ka _ _ e2) h
theorem wpS_binarySortG (hL:LtOk prog w A E s κ kd) {st:SortSt} {lo n ok:Nat} {Q:Bool->SortSt->Prop} (hk:kindOf st=kd) (ka:Keys κ (arrOf st)) (hn:lo+n<=(arrOf st).size) (hok:ok<=n) (hs:Seg κ (arrOf st) lo (lo+ok))
  (h:∀ st',Base st st' lo (lo+n)->Seg κ (arrOf st') lo (lo+n)->Q true st'):wpS (model prog w) A E s (binarySort' lo n ok) Q st:=by
 rw[binarySort'_eq]
 refine wpS_bind (wpS_mono (wpS_forRange (I:=fun k c st'=>c=(none,())/\Base st st' lo (lo+n)/\Seg κ (arrOf st') lo (lo+min k n))
  (Q:=fun c st'=>c=(none,())/\Base st st' lo (lo+n)/\Seg κ (arrOf st') lo (lo+n)) ?step ?fin ?init) ?post)
 case post=>
  rintro c st' ⟨rfl,hB',hs'⟩
  exact wpS_pure (h st' hB' hs')
 case init=>
  refine⟨rfl,.refl _ _ _,fun i j h1 hij hj=>?_⟩
  by_cases h1:ok=0
  ·have:i=j:=by omega
   subst this; exact KeyOrd.kle_refl _
  ·exact hs i j (by omega) hij (by omega)
 case fin=>
  rintro c st' ⟨hc,hB',hs'⟩
  refine⟨hc,hB',?_⟩
  rwa [show min (max (max ok 1) n) n=n by omega] at hs'
 case step=>
  rintro k c st' hak hkn ⟨rfl,hB',hs'⟩
  rw[show min k n=k by omega] at hs'
  have hsz:=hB'.size
  have ka':Keys κ (arrOf st'):=ka.perm hB'.perm
  have hk':kindOf st'=kd:=hB'.kind.trans hk
  refine wpS_bind (wpS_mono (wpS_forRange (I:=fun x c st''=>st''=st'/\∃ l r,c=(none,l,r)/\l<=r/\r<=k/\r-l<=k-x /\
    (∀ i,i<l->κ.kle (KK κ (arrOf st') (lo+i)) (KK κ (arrOf st') (lo+k)))/\(∀ i,r<=i->i<k->κ.klt (KK κ (arrOf st') (lo+k)) (KK κ (arrOf st') (lo+i))))
   (Q:=fun c st''=>st''=st'/\∃ l r,c=(none,l,r)/\l<=k /\
    (∀ i,i<l->κ.kle (KK κ (arrOf st') (lo+i)) (KK κ (arrOf st') (lo+k)))/\(∀ i,l<=i->i<k->κ.klt (KK κ (arrOf st') (lo+k)) (KK κ (arrOf st') (lo+i)))) ?istep ?ifin ?iinit) ?ipost)
  case iinit=>exact⟨rfl,0,k,rfl,by omega,by omega,by omega,fun i hi=>by omega,fun i h1 h2=>by omega⟩
  case ifin=>
   rintro c st'' ⟨rfl,l,r,rfl,hlr,hrk,hm,hlo,hhi⟩
   have:l=r:=by omega
   subst this
   exact⟨rfl,l,l,rfl,hrk,hlo,hhi⟩
  case istep=>
   rintro x c st'' _ hxk ⟨rfl,l,r,rfl,hlr,hrk,hm,hlo,hhi⟩
   dsimp only
   by_cases hge:l≥r
   ·rw[if_pos hge]
    have:l=r:=by omega
    subst this
    exact wpS_pure ⟨rfl,l,l,rfl,hrk,hlo,hhi⟩
   ·rw[if_neg hge]
    refine wpS_bind (wpS_ltAtG hL hk' ka' (by omega) (by omega) ?_)
    cases hless:κ.blt (KK κ (arrOf st'') (lo+k)) (KK κ (arrOf st'') (lo+(l+r)/2))
    case true=>
     simp only[if_true]
     refine wpS_pure ⟨rfl,l,(l+r)/2,rfl,by omega,by omega,by omega,hlo,fun i h1 h2=>?_⟩
     exact KeyOrd.klt_of_klt_of_kle hless (hs' _ _ (by omega) (by omega) (by omega))
    case false=>
     simp only[Bool.false_eq_true,if_false]
     refine wpS_pure ⟨rfl,(l+r)/2+1,r,rfl,by omega,by omega,by omega,fun i h1=>?_,hhi⟩
     exact KeyOrd.kle_trans (hs' (lo+i) (lo+(l+r)/2) (by omega) (by omega) (by omega)) (show κ.kle _ _ from hless)
  case ipost=>
   rintro c st'' ⟨rfl,l,r,rfl,hlk,hlo,hhi⟩
   dsimp only
   rw[moveDown'_eq]
   have hks:lo+k<(arrOf st'').size:=by omega
   have hd:lo+k-(lo+l)<=lo+k:=by omega
   have bb:=Base.bubble (d:=lo+k-(lo+l)) hks hd
   refine wpS_bind (wpS_modify (wpS_pure ⟨rfl,hB'.trans bb (by omega) (by omega),?_⟩))
   rw[show min (k+1) n=k+1 by omega]
   intro i j hi0 hij hj
   show κ.kle (KK κ (PyProof.Rows.bubble (arrOf st'') (lo+k) (lo+k-(lo+l))) i) (KK κ (PyProof.Rows.bubble (arrOf st'') (lo+k) (lo+k-(lo+l))) j)
   rw[KK_bubble hks hd,KK_bubble hks hd,show lo+k-(lo+k-(lo+l))=lo+l by omega]
   have hlo':∀ i,lo<=i->i<lo+l->κ.kle (KK κ (arrOf st'') i) (KK κ (arrOf st'') (lo+k)):=fun i h1 h2=>by
    have:=hlo (i-lo) (by omega)
    rwa [show lo+(i-lo)=i by omega] at this
   have hhi':∀ i,lo+l<=i->i<lo+k->κ.klt (KK κ (arrOf st'') (lo+k)) (KK κ (arrOf st'') i):=fun i h1 h2=>by
    have:=hhi (i-lo) (by omega) (by omega)
    rwa [show lo+(i-lo)=i by omega] at this
   repeat' split
   all_goals first
    | (exfalso; omega)
    | exact KeyOrd.kle_refl _
    | exact hlo' _ (by omega) (by omega)
    | exact KeyOrd.kle_of_klt (hhi' _ (by omega) (by omega))
    | exact hs' _ _ (by omega) (by omega) (by omega)
theorem wpS_countRunG (hL:LtOk prog w A E s κ kd) {st:SortSt} {lo nrem:Nat} {Q:Option Nat->SortSt->Prop} (hk:kindOf st=kd) (ka:Keys κ (arrOf st)) (hn:lo+nrem<=(arrOf st).size) (h1:1<=nrem)
  (h:∀ m st',Base st st' lo (lo+nrem)->1<=m->m<=nrem->Seg κ (arrOf st') lo (lo+m)->Q (some m) st'):wpS (model prog w) A E s (countRun' lo nrem) Q st:=by
 rw[countRun'_eq]
 have more:∀ (a:Array Keyed) (x:Nat),1<=x->Seg κ a lo (lo+x)->κ.blt (KK κ a (lo+x)) (KK κ a (lo+x-1))=false->Seg κ a lo (lo+(x+1)):=fun a x hx hs' hless i j hi hij hj=>by
  by_cases hjx:j<lo+x
  ·exact hs' i j hi hij hjx
  ·have hj':j=lo+x:=by omega
   subst hj'
   by_cases hi':i=lo+x
   ·subst hi'; exact KeyOrd.kle_refl _
   ·exact KeyOrd.kle_trans (hs' i (lo+x-1) (by omega) (by omega) (by omega)) hless
 refine wpS_bind (wpS_mono (wpS_forRange (I:=fun x c st'=>st'=st/\c=(none,x)/\Seg κ (arrOf st) lo (lo+x))
  (Q:=fun c st'=>st'=st/\∃ n,c=(none,n)/\1<=n/\n<=nrem/\Seg κ (arrOf st) lo (lo+n)/\(n=nrem\/κ.klt (KK κ (arrOf st) (lo+n)) (KK κ (arrOf st) (lo+n-1)))) ?_ ?_ ⟨rfl,rfl,seg_one⟩) ?_)
 ·rintro x c st' hax hxn ⟨rfl,rfl,hs'⟩
  dsimp only
  refine wpS_bind (wpS_ltAtG hL hk ka (by omega) (by omega) ?_)
  cases hless:κ.blt (KK κ (arrOf st') (lo+x)) (KK κ (arrOf st') (lo+x-1))
  case true=>
   simp only[if_true]
   exact wpS_pure ⟨rfl,x,rfl,hax,by omega,hs',.inr hless⟩
  case false=>
   simp only[Bool.false_eq_true,if_false]
   exact wpS_pure ⟨rfl,rfl,more _ x hax hs' hless⟩
 ·rintro c st' ⟨rfl,rfl,hs'⟩
  rw[show max 1 nrem=nrem by omega] at hs' ⊢
  exact⟨rfl,nrem,rfl,h1,Nat.le_refl _,hs',.inl rfl⟩
 rintro c st' ⟨rfl,n,rfl,hn1,hn2,hsn,hor⟩
 dsimp only
 by_cases hnn:n=nrem
 ·rw[if_pos (by simpa using hnn)]
  exact wpS_pure (h n st' (.refl _ _ _) hn1 hn2 hsn)
 rw[if_neg (by simpa using hnn)]
 have hlt:κ.klt (KK κ (arrOf st') (lo+n)) (KK κ (arrOf st') (lo+n-1)):=hor.resolve_left hnn
 have fall:∀ (st2:SortSt),Base st' st2 lo (lo+nrem)->NSeg κ (arrOf st2) lo (lo+(n+1))->True:=fun _ _ _=>trivial
 by_cases hgt:n>1
 ·rw[if_pos hgt]
  refine wpS_bind (wpS_ltAtG hL hk ka (by omega) (by omega) ?_)
  cases hrose:κ.blt (KK κ (arrOf st') lo) (KK κ (arrOf st') (lo+n-1))
  case true=>
   simp only[if_true]
   exact wpS_pure (h n st' (.refl _ _ _) hn1 hn2 hsn)
  simp only[Bool.false_eq_true,if_false]
  have hsz:lo+n<=(arrOf st').size:=by omega
  have hall:∀ k,lo<=k->k<lo+n->KK κ (arrOf st') k=KK κ (arrOf st') (lo+n-1):=by
   intro k hk1 hk2
   have a1:=hsn lo k (Nat.le_refl _) hk1 hk2
   have a2:=hsn k (lo+n-1) hk1 (by omega) (by omega)
   exact KeyOrd.kle_antisymm a2 (KeyOrd.kle_trans hrose a1)
  refine wpS_bind (wpS_reverse ?_)
  have hB2:Base st' (setArr st' (PyProof.Rows.mirror (arrOf st') lo (lo+n) ((lo+n-lo)/2))) lo (lo+nrem):=(Base.mirror hsz).wide (Nat.le_refl _) (by omega)
  have hN2:NSeg κ (arrOf (setArr st' (PyProof.Rows.mirror (arrOf st') lo (lo+n) ((lo+n-lo)/2)))) lo (lo+(n+1)):=by
   intro i j hi hij hj
   show κ.kle (KK κ (PyProof.Rows.mirror (arrOf st') _ _ _) j) (KK κ (PyProof.Rows.mirror (arrOf st') _ _ _) i)
   rw[KK_mirror_equal hsz hall,KK_mirror_equal hsz hall]
   by_cases hjn:j<lo+n
   ·rw[hall i (by omega) (by omega),hall j (by omega) hjn]; exact KeyOrd.kle_refl _
   ·have hj':j=lo+n:=by omega
    subst hj'
    by_cases hi':i=lo+n
    ·subst hi'; exact KeyOrd.kle_refl _
    ·rw[hall i (by omega) (by omega)]; exact KeyOrd.kle_of_klt hlt
  revert hB2 hN2
  generalize setArr st' (PyProof.Rows.mirror (arrOf st') lo (lo+n) ((lo+n-lo)/2))=st2
  intro hB2 hN2
  clear hrose hsz hall
  refine wpS_bind (wpS_lift (wpAny_rule ⟨rfl,?_⟩))
  refine wpS_bind (wpS_mono (wpS_forRange (I:=fun x c st3=>∃ neq,c=(none,x,neq)/\Base st' st3 lo (lo+nrem)/\NSeg κ (arrOf st3) lo (lo+x)/\neq+1<=x/\(∀ i,lo+x-(neq+1)<=i->i<lo+x->KK κ (arrOf st3) i=KK κ (arrOf st3) (lo+x-1)))
   (Q:=fun c st3=>∃ m neq,c=(none,m,neq)/\Base st' st3 lo (lo+nrem)/\1<=m/\m<=nrem/\NSeg κ (arrOf st3) lo (lo+m)/\neq+1<=m/\(∀ i,lo+m-(neq+1)<=i->i<lo+m->KK κ (arrOf st3) i=KK κ (arrOf st3) (lo+m-1)))
   ?_ ?_ ⟨0,rfl,hB2,hN2,by omega,fun i g1 g2=>by congr 1; omega⟩) ?_)
  ·rintro x c st3 hax hxn ⟨neq,rfl,hB3,hN3,hq,he⟩
   dsimp only
   have hz3:=hB3.size
   have ka3:Keys κ (arrOf st3):=ka.perm hB3.perm
   have hk3:kindOf st3=kd:=hB3.kind.trans hk
   have hsz:lo+x<=(arrOf st3).size:=by omega
   refine wpS_bind (wpS_ltAtG hL hk3 ka3 (by omega) (by omega) ?_)
   cases hless:κ.blt (KK κ (arrOf st3) (lo+x)) (KK κ (arrOf st3) (lo+x-1))
   case true=>
    simp only[if_true]
    have step1:∀ xs:Array Keyed,(∀ k,KK κ xs k=KK κ (arrOf st3) k)->NSeg κ xs lo (lo+(x+1)):=by
     intro xs hkk i j hi hij hj
     rw[hkk,hkk]
     by_cases hjx:j<lo+x
     ·exact hN3 i j hi hij hjx
     ·have hj':j=lo+x:=by omega
      subst hj'
      by_cases hi':i=lo+x
      ·subst hi'; exact KeyOrd.kle_refl _
      ·exact KeyOrd.kle_trans (KeyOrd.kle_of_klt hless) (hN3 i (lo+x-1) hi (by omega) (by omega))
    by_cases hneq:neq>0
    ·rw[if_pos hneq]
     refine wpS_bind (wpS_reverse (wpS_pure ⟨0,rfl,hB3.trans (Base.mirror hsz) (by omega) (by omega),step1 _ (KK_mirror_equal hsz he),by omega,fun i g1 g2=>by congr 1; omega⟩))
    ·rw[if_neg hneq]
     exact wpS_pure ⟨0,rfl,hB3,step1 _ (fun _=>rfl),by omega,fun i g1 g2=>by congr 1; omega⟩
   case false=>
    simp only[Bool.false_eq_true,if_false]
    refine wpS_bind (wpS_ltAtG hL hk3 ka3 (by omega) (by omega) ?_)
    cases hlarger:κ.blt (KK κ (arrOf st3) (lo+x-1)) (KK κ (arrOf st3) (lo+x))
    case true=>
     simp only[if_true]
     exact wpS_pure ⟨x,neq,rfl,hB3,by omega,by omega,hN3,hq,he⟩
    case false=>
     simp only[Bool.false_eq_true,if_false]
     have heqx:KK κ (arrOf st3) (lo+x)=KK κ (arrOf st3) (lo+x-1):=KeyOrd.kle_antisymm hlarger hless
     refine wpS_pure ⟨neq+1,rfl,hB3,fun i j hi hij hj=>?_,by omega,fun i g1 g2=>?_⟩
     ·by_cases hjx:j<lo+x
      ·exact hN3 i j hi hij hjx
      ·have hj':j=lo+x:=by omega
       subst hj'
       by_cases hi':i=lo+x
       ·subst hi'; exact KeyOrd.kle_refl _
       ·rw[heqx]; exact hN3 i (lo+x-1) hi (by omega) (by omega)
     ·rw[show lo+(x+1)-1=lo+x by omega]
      by_cases hix:i=lo+x
      ·subst hix; rfl
      ·rw[heqx]; exact he i (by omega) (by omega)
  ·rintro c st3 ⟨neq,rfl,hB3,hN3,hq,he⟩
   rw[show max (n+1) nrem=nrem by omega] at hN3 hq he ⊢
   exact⟨nrem,neq,rfl,hB3,h1,Nat.le_refl _,hN3,hq,he⟩
  rintro c st3 ⟨m,neq,rfl,hB3,hm1,hm2,hN3,hq,he⟩
  dsimp only
  have hz3:=hB3.size
  have hsz:lo+m<=(arrOf st3).size:=by omega
  have tail:∀ st4:SortSt,Base st' st4 lo (lo+nrem)->NSeg κ (arrOf st4) lo (lo+m)->Base st' (setArr st4 (PyProof.Rows.mirror (arrOf st4) lo (lo+m) ((lo+m-lo)/2))) lo (lo+nrem)/\Seg κ (arrOf (setArr st4 (PyProof.Rows.mirror (arrOf st4) lo (lo+m) ((lo+m-lo)/2)))) lo (lo+m):=fun st4 hB4 hN4=>by
   have hz4:=hB4.size
   have hsz4:lo+m<=(arrOf st4).size:=by omega
   refine⟨hB4.trans (Base.mirror hsz4) (Nat.le_refl _) (by omega),fun i j hi hij hj=>?_⟩
   show κ.kle (KK κ (PyProof.Rows.mirror (arrOf st4) lo (lo+m) ((lo+m-lo)/2)) i) (KK κ (PyProof.Rows.mirror (arrOf st4) lo (lo+m) ((lo+m-lo)/2)) j)
   rw[KK_mirror hsz4,KK_mirror hsz4,if_pos (by omega),if_pos (by omega)]
   exact hN4 _ _ (by omega) (by omega) (by omega)
  by_cases hneq:neq>0
  ·rw[if_pos hneq]
   refine wpS_bind (wpS_reverse ?_)
   obtain⟨hB5,hS5⟩:=tail _ (hB3.trans (Base.mirror (i:=lo+m-(neq+1)) hsz) (by omega) (by omega)) (fun i j hi hij hj=>by
    show κ.kle (KK κ (PyProof.Rows.mirror (arrOf st3) _ _ _) j) (KK κ (PyProof.Rows.mirror (arrOf st3) _ _ _) i)
    rw[KK_mirror_equal hsz he,KK_mirror_equal hsz he]
    exact hN3 i j hi hij hj)
   refine wpS_bind (wpS_reverse ?_)
   revert hB5 hS5
   generalize setArr _ (PyProof.Rows.mirror _ lo (lo+m) ((lo+m-lo)/2))=st5
   intro hB5 hS5
   have hz5:=hB5.size
   have ka5:Keys κ (arrOf st5):=ka.perm hB5.perm
   have hk5:kindOf st5=kd:=hB5.kind.trans hk
   refine wpS_bind (wpS_mono (wpS_forRange (I:=fun x c st6=>st6=st5/\c=(none,x)/\Seg κ (arrOf st5) lo (lo+x))
    (Q:=fun c st6=>st6=st5/\∃ n,c=(none,n)/\1<=n/\n<=nrem/\Seg κ (arrOf st5) lo (lo+n)) ?_ ?_ ⟨rfl,rfl,hS5⟩) ?_)
   ·rintro x c st6 hax hxn ⟨rfl,rfl,hs'⟩
    dsimp only
    refine wpS_bind (wpS_ltAtG hL hk5 ka5 (by omega) (by omega) ?_)
    cases hless:κ.blt (KK κ (arrOf st6) (lo+x)) (KK κ (arrOf st6) (lo+x-1))
    case true=>
     simp only[if_true]
     exact wpS_pure ⟨rfl,x,rfl,by omega,by omega,hs'⟩
    case false=>
     simp only[Bool.false_eq_true,if_false]
     exact wpS_pure ⟨rfl,rfl,more _ x (by omega) hs' hless⟩
   ·rintro c st6 ⟨rfl,rfl,hs'⟩
    rw[show max m nrem=nrem by omega] at hs' ⊢
    exact⟨rfl,nrem,rfl,h1,Nat.le_refl _,hs'⟩
   ·rintro c st6 ⟨rfl,n6,rfl,g1,g2,hs'⟩
    exact wpS_pure (h n6 _ hB5 g1 g2 hs')
  ·rw[if_neg hneq]
   obtain⟨hB5,hS5⟩:=tail _ hB3 hN3
   refine wpS_bind (wpS_reverse ?_)
   revert hB5 hS5
   generalize setArr _ (PyProof.Rows.mirror _ lo (lo+m) ((lo+m-lo)/2))=st5
   intro hB5 hS5
   have hz5:=hB5.size
   have ka5:Keys κ (arrOf st5):=ka.perm hB5.perm
   have hk5:kindOf st5=kd:=hB5.kind.trans hk
   refine wpS_bind (wpS_mono (wpS_forRange (I:=fun x c st6=>st6=st5/\c=(none,x)/\Seg κ (arrOf st5) lo (lo+x))
    (Q:=fun c st6=>st6=st5/\∃ n,c=(none,n)/\1<=n/\n<=nrem/\Seg κ (arrOf st5) lo (lo+n)) ?_ ?_ ⟨rfl,rfl,hS5⟩) ?_)
   ·rintro x c st6 hax hxn ⟨rfl,rfl,hs'⟩
    dsimp only
    refine wpS_bind (wpS_ltAtG hL hk5 ka5 (by omega) (by omega) ?_)
    cases hless:κ.blt (KK κ (arrOf st6) (lo+x)) (KK κ (arrOf st6) (lo+x-1))
    case true=>
     simp only[if_true]
     exact wpS_pure ⟨rfl,x,rfl,by omega,by omega,hs'⟩
    case false=>
     simp only[Bool.false_eq_true,if_false]
     exact wpS_pure ⟨rfl,rfl,more _ x (by omega) hs' hless⟩
   ·rintro c st6 ⟨rfl,rfl,hs'⟩
    rw[show max m nrem=nrem by omega] at hs' ⊢
    exact⟨rfl,nrem,rfl,h1,Nat.le_refl _,hs'⟩
   ·rintro c st6 ⟨rfl,n6,rfl,g1,g2,hs'⟩
    exact wpS_pure (h n6 _ hB5 g1 g2 hs')
 ·rw[if_neg hgt]
  have hB2:Base st' st' lo (lo+nrem):=.refl _ _ _
  have hN2:NSeg κ (arrOf st') lo (lo+(n+1)):=by
   have hn1':n=1:=by omega
   subst hn1'
   intro i j hi hij hj
   by_cases hi':i=j
   ·subst hi'; exact KeyOrd.kle_refl _
   ·have hi0:i=lo:=by omega
    have hj1:j=lo+1:=by omega
    subst hi0; subst hj1
    exact KeyOrd.kle_of_klt hlt
  refine wpS_bind (wpS_lift (wpAny_rule ⟨rfl,?_⟩))
  refine wpS_bind (wpS_mono (wpS_forRange (I:=fun x c st3=>∃ neq,c=(none,x,neq)/\Base st' st3 lo (lo+nrem)/\NSeg κ (arrOf st3) lo (lo+x)/\neq+1<=x/\(∀ i,lo+x-(neq+1)<=i->i<lo+x->KK κ (arrOf st3) i=KK κ (arrOf st3) (lo+x-1)))
   (Q:=fun c st3=>∃ m neq,c=(none,m,neq)/\Base st' st3 lo (lo+nrem)/\1<=m/\m<=nrem/\NSeg κ (arrOf st3) lo (lo+m)/\neq+1<=m/\(∀ i,lo+m-(neq+1)<=i->i<lo+m->KK κ (arrOf st3) i=KK κ (arrOf st3) (lo+m-1)))
   ?_ ?_ ⟨0,rfl,hB2,hN2,by omega,fun i g1 g2=>by congr 1; omega⟩) ?_)
  ·rintro x c st3 hax hxn ⟨neq,rfl,hB3,hN3,hq,he⟩
   dsimp only
   have hz3:=hB3.size
   have ka3:Keys κ (arrOf st3):=ka.perm hB3.perm
   have hk3:kindOf st3=kd:=hB3.kind.trans hk
   have hsz:lo+x<=(arrOf st3).size:=by omega
   refine wpS_bind (wpS_ltAtG hL hk3 ka3 (by omega) (by omega) ?_)
   cases hless:κ.blt (KK κ (arrOf st3) (lo+x)) (KK κ (arrOf st3) (lo+x-1))
   case true=>
    simp only[if_true]
    have step1:∀ xs:Array Keyed,(∀ k,KK κ xs k=KK κ (arrOf st3) k)->NSeg κ xs lo (lo+(x+1)):=by
     intro xs hkk i j hi hij hj
     rw[hkk,hkk]
     by_cases hjx:j<lo+x
     ·exact hN3 i j hi hij hjx
     ·have hj':j=lo+x:=by omega
      subst hj'
      by_cases hi':i=lo+x
      ·subst hi'; exact KeyOrd.kle_refl _
      ·exact KeyOrd.kle_trans (KeyOrd.kle_of_klt hless) (hN3 i (lo+x-1) hi (by omega) (by omega))
    by_cases hneq:neq>0
    ·rw[if_pos hneq]
     refine wpS_bind (wpS_reverse (wpS_pure ⟨0,rfl,hB3.trans (Base.mirror hsz) (by omega) (by omega),step1 _ (KK_mirror_equal hsz he),by omega,fun i g1 g2=>by congr 1; omega⟩))
    ·rw[if_neg hneq]
     exact wpS_pure ⟨0,rfl,hB3,step1 _ (fun _=>rfl),by omega,fun i g1 g2=>by congr 1; omega⟩
   case false=>
    simp only[Bool.false_eq_true,if_false]
    refine wpS_bind (wpS_ltAtG hL hk3 ka3 (by omega) (by omega) ?_)
    cases hlarger:κ.blt (KK κ (arrOf st3) (lo+x-1)) (KK κ (arrOf st3) (lo+x))
    case true=>
     simp only[if_true]
     exact wpS_pure ⟨x,neq,rfl,hB3,by omega,by omega,hN3,hq,he⟩
    case false=>
     simp only[Bool.false_eq_true,if_false]
     have heqx:KK κ (arrOf st3) (lo+x)=KK κ (arrOf st3) (lo+x-1):=KeyOrd.kle_antisymm hlarger hless
     refine wpS_pure ⟨neq+1,rfl,hB3,fun i j hi hij hj=>?_,by omega,fun i g1 g2=>?_⟩
     ·by_cases hjx:j<lo+x
      ·exact hN3 i j hi hij hjx
      ·have hj':j=lo+x:=by omega
       subst hj'
       by_cases hi':i=lo+x
       ·subst hi'; exact KeyOrd.kle_refl _
       ·rw[heqx]; exact hN3 i (lo+x-1) hi (by omega) (by omega)
     ·rw[show lo+(x+1)-1=lo+x by omega]
      by_cases hix:i=lo+x
      ·subst hix; rfl
      ·rw[heqx]; exact he i (by omega) (by omega)
  ·rintro c st3 ⟨neq,rfl,hB3,hN3,hq,he⟩
   rw[show max (n+1) nrem=nrem by omega] at hN3 hq he ⊢
   exact⟨nrem,neq,rfl,hB3,h1,Nat.le_refl _,hN3,hq,he⟩
  rintro c st3 ⟨m,neq,rfl,hB3,hm1,hm2,hN3,hq,he⟩
  dsimp only
  have hz3:=hB3.size
  have hsz:lo+m<=(arrOf st3).size:=by omega
  have tail:∀ st4:SortSt,Base st' st4 lo (lo+nrem)->NSeg κ (arrOf st4) lo (lo+m)->Base st' (setArr st4 (PyProof.Rows.mirror (arrOf st4) lo (lo+m) ((lo+m-lo)/2))) lo (lo+nrem)/\Seg κ (arrOf (setArr st4 (PyProof.Rows.mirror (arrOf st4) lo (lo+m) ((lo+m-lo)/2)))) lo (lo+m):=fun st4 hB4 hN4=>by
   have hz4:=hB4.size
   have hsz4:lo+m<=(arrOf st4).size:=by omega
   refine⟨hB4.trans (Base.mirror hsz4) (Nat.le_refl _) (by omega),fun i j hi hij hj=>?_⟩
   show κ.kle (KK κ (PyProof.Rows.mirror (arrOf st4) lo (lo+m) ((lo+m-lo)/2)) i) (KK κ (PyProof.Rows.mirror (arrOf st4) lo (lo+m) ((lo+m-lo)/2)) j)
   rw[KK_mirror hsz4,KK_mirror hsz4,if_pos (by omega),if_pos (by omega)]
   exact hN4 _ _ (by omega) (by omega) (by omega)
  by_cases hneq:neq>0
  ·rw[if_pos hneq]
   refine wpS_bind (wpS_reverse ?_)
   obtain⟨hB5,hS5⟩:=tail _ (hB3.trans (Base.mirror (i:=lo+m-(neq+1)) hsz) (by omega) (by omega)) (fun i j hi hij hj=>by
    show κ.kle (KK κ (PyProof.Rows.mirror (arrOf st3) _ _ _) j) (KK κ (PyProof.Rows.mirror (arrOf st3) _ _ _) i)
    rw[KK_mirror_equal hsz he,KK_mirror_equal hsz he]
    exact hN3 i j hi hij hj)
   refine wpS_bind (wpS_reverse ?_)
   revert hB5 hS5
   generalize setArr _ (PyProof.Rows.mirror _ lo (lo+m) ((lo+m-lo)/2))=st5
   intro hB5 hS5
   have hz5:=hB5.size
   have ka5:Keys κ (arrOf st5):=ka.perm hB5.perm
   have hk5:kindOf st5=kd:=hB5.kind.trans hk
   refine wpS_bind (wpS_mono (wpS_forRange (I:=fun x c st6=>st6=st5/\c=(none,x)/\Seg κ (arrOf st5) lo (lo+x))
    (Q:=fun c st6=>st6=st5/\∃ n,c=(none,n)/\1<=n/\n<=nrem/\Seg κ (arrOf st5) lo (lo+n)) ?_ ?_ ⟨rfl,rfl,hS5⟩) ?_)
   ·rintro x c st6 hax hxn ⟨rfl,rfl,hs'⟩
    dsimp only
    refine wpS_bind (wpS_ltAtG hL hk5 ka5 (by omega) (by omega) ?_)
    cases hless:κ.blt (KK κ (arrOf st6) (lo+x)) (KK κ (arrOf st6) (lo+x-1))
    case true=>
     simp only[if_true]
     exact wpS_pure ⟨rfl,x,rfl,by omega,by omega,hs'⟩
    case false=>
     simp only[Bool.false_eq_true,if_false]
     exact wpS_pure ⟨rfl,rfl,more _ x (by omega) hs' hless⟩
   ·rintro c st6 ⟨rfl,rfl,hs'⟩
    rw[show max m nrem=nrem by omega] at hs' ⊢
    exact⟨rfl,nrem,rfl,h1,Nat.le_refl _,hs'⟩
   ·rintro c st6 ⟨rfl,n6,rfl,g1,g2,hs'⟩
    exact wpS_pure (h n6 _ hB5 g1 g2 hs')
  ·rw[if_neg hneq]
   obtain⟨hB5,hS5⟩:=tail _ hB3 hN3
   refine wpS_bind (wpS_reverse ?_)
   revert hB5 hS5
   generalize setArr _ (PyProof.Rows.mirror _ lo (lo+m) ((lo+m-lo)/2))=st5
   intro hB5 hS5
   have hz5:=hB5.size
   have ka5:Keys κ (arrOf st5):=ka.perm hB5.perm
   have hk5:kindOf st5=kd:=hB5.kind.trans hk
   refine wpS_bind (wpS_mono (wpS_forRange (I:=fun x c st6=>st6=st5/\c=(none,x)/\Seg κ (arrOf st5) lo (lo+x))
    (Q:=fun c st6=>st6=st5/\∃ n,c=(none,n)/\1<=n/\n<=nrem/\Seg κ (arrOf st5) lo (lo+n)) ?_ ?_ ⟨rfl,rfl,hS5⟩) ?_)
   ·rintro x c st6 hax hxn ⟨rfl,rfl,hs'⟩
    dsimp only
    refine wpS_bind (wpS_ltAtG hL hk5 ka5 (by omega) (by omega) ?_)
    cases hless:κ.blt (KK κ (arrOf st6) (lo+x)) (KK κ (arrOf st6) (lo+x-1))
    case true=>
     simp only[if_true]
     exact wpS_pure ⟨rfl,x,rfl,by omega,by omega,hs'⟩
    case false=>
     simp only[Bool.false_eq_true,if_false]
     exact wpS_pure ⟨rfl,rfl,more _ x (by omega) hs' hless⟩
   ·rintro c st6 ⟨rfl,rfl,hs'⟩
    rw[show max m nrem=nrem by omega] at hs' ⊢
    exact⟨rfl,nrem,rfl,h1,Nat.le_refl _,hs'⟩
   ·rintro c st6 ⟨rfl,n6,rfl,g1,g2,hs'⟩
    exact wpS_pure (h n6 _ hB5 g1 g2 hs')
end
end Tim
namespace Tim
open PySem PyProof.Rows
def wr (s:Nat) (l:List (Keyed×Nat)) (a:Array Keyed):Array Keyed:=l.foldl (fun a x=>a.setIfInBounds (s+x.2) x.1) a
theorem wr_get (s:Nat):∀ (M:List Keyed) (o:Nat) (a:Array Keyed),s+o+M.length<=a.size->∀ k:Nat,(wr s (M.zipIdx o) a)[k]?=if s+o<=k/\k<s+o+M.length then M[k-(s+o)]? else a[k]?
 | [],o,a,_,k=>by
  rw[if_neg (by rw[List.length_nil]; omega)]; rfl
 | x::r,o,a,h,k=>by
  rw[List.length_cons] at h
  show (wr s (r.zipIdx (o+1)) (a.setIfInBounds (s+o) x))[k]?=_
  rw[wr_get s r (o+1) _ (by simp; omega) k,List.length_cons]
  by_cases h1:k=s+o
  ·subst h1
   rw[if_neg (by omega),if_pos (by omega),Array.getElem?_setIfInBounds]
   simp; omega
  ·by_cases h2:s+o<=k/\k<s+o+(r.length+1)
   ·rw[if_pos (by omega),if_pos h2]
    obtain⟨q,hq⟩ : ∃ q,k-(s+o)=q+1:=⟨k-(s+o)-1,by omega⟩
    rw[hq,List.getElem?_cons_succ,show k-(s+(o+1))=q by omega]
   ·rw[if_neg (by omega),if_neg h2,Array.getElem?_setIfInBounds,if_neg (fun z=>h1 z.symm)]
section
variable {κ:KeyKind}
theorem srt_of_seg {a:Array Keyed} {lo hi:Nat} (h:Seg κ a lo hi) (hz:hi<=a.size):Srt κ (a.extract lo hi).toList:=by
 refine List.pairwise_iff_getElem.mpr fun i j hi' hj hij=>?_
 have hl:(a.extract lo hi).toList.length=hi-lo:=by rw[Array.length_toList,Array.size_extract]; omega
 have g:∀ (q:Nat) (hq:q<(a.extract lo hi).toList.length),a[lo+q]?=some (a.extract lo hi).toList[q]:=fun q hq=>by
  rw[Array.getElem_toList,Array.getElem_extract,Array.getElem?_eq_getElem (by omega)]
 show κ.kle _ _
 rw[<-KK_get (g i hi'),← KK_get (g j hj)]
 exact h _ _ (by omega) (by omega) (by omega)
theorem keys_ext {a:Array Keyed} (k:Keys κ a) {lo hi:Nat} (hz:hi<=a.size):Keys κ (a.extract lo hi):=fun i p e=>by
 rw[Array.getElem?_extract] at e
 split at e
 ·exact k _ _ e
 ·cases e
theorem mem_ext {a:Array Keyed} {lo hi:Nat} (hz:hi<=a.size) {x:Keyed} (h:x∈(a.extract lo hi).toList):∃ q,lo<=q/\q<hi/\a[q]?=some x:=by
 obtain⟨j,hj,e⟩:=List.mem_iff_getElem.mp h
 rw[Array.length_toList,Array.size_extract] at hj
 refine⟨lo+j,by omega,by omega,?_⟩
 rw[Array.getElem_toList,Array.getElem_extract] at e
 rw[Array.getElem?_eq_getElem (by omega),e]
theorem Seg.congr {a b:Array Keyed} {lo hi:Nat} (h:Seg κ a lo hi) (e:∀ i:Nat,lo<=i->i<hi->b[i]?=a[i]?):Seg κ b lo hi:=fun i j h1 h2 h3=>by
 rw[KK_congr (e i h1 (by omega)),KK_congr (e j (by omega) h3)]
 exact h i j h1 h2 h3
end
section
variable {prog:Program} {w:World} {A:Around} {E:Value->Shared->Prop} {s:Shared} {κ:KeyKind} {kd:SortKind}
theorem wpS_set {σ:Type} {st st':σ} {Q:PUnit->σ->Prop} {M:Model} (h:Q ⟨⟩ st'):wpS M A E s (set st':StateT σ Sem PUnit) Q st:=by
 unfold wpS; rw[StateT.run_set]; exact wpAny_pure ⟨rfl,h⟩
theorem wpS_mergeAtG (hL:LtOk prog w A E s κ kd) {st:SortSt} {i sa na pw sb nb pw2:Nat} {Q:Bool->SortSt->Prop} (hk:kindOf st=kd) (ka:Keys κ (arrOf st)) (hf:failedOf st=none)
  (p1:(pendingOf st)[i]?=some (sa,na,pw)) (p2:(pendingOf st)[i+1]?=some (sb,nb,pw2)) (e:sb=sa+na) (hna:0<na) (hnb:0<nb) (hn:sb+nb<=(arrOf st).size) (s1:Seg κ (arrOf st) sa sb) (s2:Seg κ (arrOf st) sb (sb+nb))
  (h:∀ st',(arrOf st').Perm (arrOf st)->(∀ j:Nat,(j<sa\/sb+nb<=j)->(arrOf st')[j]?=(arrOf st)[j]?)->kindOf st'=kindOf st->failedOf st'=none->pendingOf st'=((pendingOf st).setIfInBounds i (sa,na+nb,pw)).eraseIdxIfInBounds (i+1) ->
   Seg κ (arrOf st') sa (sb+nb)->Q true st'):wpS (model prog w) A E s (mergeAt' i) Q st:=by
 show wpS _ _ _ _ (bind _ _) _ _
 refine wpS_bind (wpS_get ?_)
 simp only[p1,p2]
 refine wpS_bind (wpS_set ?_)
 have lt1:sb<(arrOf st).size:=by omega
 have e1:(arrOf st)[sb]?=some (arrOf st)[sb]:=Array.getElem?_eq_getElem lt1
 refine wpS_bind (wpS_elem lt1 ?_)
 refine wpS_bind (wpS_gallop (arr:=arrOf st) hL hk (ka _ _ e1) ka (by omega) (by omega) (by rw[<-e]; exact s1) fun k hk1 pk nk=>?_)
 dsimp only
 rw[<-KK_get e1] at pk nk
 have lowA:∀ q,sa<=q->q<sa+k->κ.kle (KK κ (arrOf st) q) (KK κ (arrOf st) sb):=fun q h1 h2=>by
  have:=pk (q-sa) (by omega)
  rw[show sa+(q-sa)=q by omega] at this
  simpa [byd,KeyOrd.kle] using this
 have highA:∀ q,sa+k<=q->q<sb->κ.klt (KK κ (arrOf st) sb) (KK κ (arrOf st) q):=fun q h1 h2=>by
  have:=nk (q-sa) (by omega) (by omega)
  rw[show sa+(q-sa)=q by omega] at this
  simpa [byd,KeyOrd.klt] using this
 by_cases z1:na-k=0
 ·rw[if_pos (beq_iff_eq.mpr z1)]
  refine wpS_pure (h _ (.refl _) (fun _ _=>rfl) rfl hf rfl fun i j h1 h2 h3=>?_)
  show κ.kle (KK κ (arrOf st) i) (KK κ (arrOf st) j)
  by_cases hj:j<sb
  ·exact s1 i j h1 h2 hj
  ·by_cases hi:sb<=i
   ·exact s2 i j hi h2 h3
   ·exact KeyOrd.kle_trans (lowA i h1 (by omega)) (s2 sb j (Nat.le_refl _) (by omega) h3)
 rw[if_neg (fun z=>z1 (beq_iff_eq.mp z))]
 have lt2:sa+k+(na-k)-1<(arrOf st).size:=by omega
 have ix:sa+k+(na-k)-1=sb-1:=by omega
 have e2:(arrOf st)[sa+k+(na-k)-1]?=some (arrOf st)[sa+k+(na-k)-1]:=Array.getElem?_eq_getElem lt2
 refine wpS_bind (wpS_elem lt2 ?_)
 refine wpS_bind (wpS_gallop (arr:=arrOf st) hL hk (ka _ _ e2) ka (by omega) (by omega) s2 fun m hm1 pm nm=>?_)
 dsimp only
 rw[<-KK_get e2,ix] at pm nm
 have lowB:∀ q,sb<=q->q<sb+m->κ.klt (KK κ (arrOf st) q) (KK κ (arrOf st) (sb-1)):=fun q h1 h2=>by
  have:=pm (q-sb) (by omega)
  rw[show sb+(q-sb)=q by omega] at this
  simpa [byd,KeyOrd.klt] using this
 have highB:∀ q,sb+m<=q->q<sb+nb->κ.kle (KK κ (arrOf st) (sb-1)) (KK κ (arrOf st) q):=fun q h1 h2=>by
  have:=nm (q-sb) (by omega) (by omega)
  rw[show sb+(q-sb)=q by omega] at this
  simpa [byd,KeyOrd.kle] using this
 by_cases z2:m=0
 ·rw[if_pos (beq_iff_eq.mpr z2)]
  refine wpS_pure (h _ (.refl _) (fun _ _=>rfl) rfl hf rfl fun i j h1 h2 h3=>?_)
  show κ.kle (KK κ (arrOf st) i) (KK κ (arrOf st) j)
  by_cases hj:j<sb
  ·exact s1 i j h1 h2 hj
  ·by_cases hi:sb<=i
   ·exact s2 i j hi h2 h3
   ·exact KeyOrd.kle_trans (s1 i (sb-1) h1 (by omega) (by omega)) (highB j (by omega) h3)
 rw[if_neg (fun z=>z2 (beq_iff_eq.mp z))]
 have hxs:((arrOf st).extract (sa+k) sb).size=sb-(sa+k):=by rw[Array.size_extract]; omega
 have hys:((arrOf st).extract sb (sb+m)).size=m:=by rw[Array.size_extract]; omega
 have hX:Srt κ ((arrOf st).extract (sa+k) sb).toList:=srt_of_seg (fun i j h1 h2 h3=>s1 i j (by omega) h2 h3) (by omega)
 have hY:Srt κ ((arrOf st).extract sb (sb+m)).toList:=srt_of_seg (fun i j h1 h2 h3=>s2 i j h1 h2 (by omega)) (by omega)
 have kX:Keys κ ((arrOf st).extract (sa+k) sb):=keys_ext ka (by omega)
 have kY:Keys κ ((arrOf st).extract sb (sb+m)):=keys_ext ka (by omega)
 have b0:(arrOf st)[sb]?=some ((arrOf st).extract sb (sb+m))[0]:=by
  rw[Array.getElem_extract,Array.getElem?_eq_getElem (by omega)]; rfl
 have al:(arrOf st)[sb-1]?=some ((arrOf st).extract (sa+k) sb)[((arrOf st).extract (sa+k) sb).size-1]:=by
  rw[Array.getElem_extract]
  have:sa+k+(((arrOf st).extract (sa+k) sb).size-1)=sb-1:=by omega
  simp only[this]
  rw[Array.getElem?_eq_getElem (by omega)]
 have h1':∀ y∈((arrOf st).extract (sa+k) sb).toList,le κ ((arrOf st).extract sb (sb+m))[0] y:=fun y hy=>by
  obtain⟨q,q1,q2,ey⟩:=mem_ext (by omega) hy
  have:=highA q q1 q2
  rw[KK_get b0,KK_get ey] at this
  exact KeyOrd.kle_of_klt this
 have h2':∀ x∈((arrOf st).extract sb (sb+m)).toList,le κ x ((arrOf st).extract (sa+k) sb)[((arrOf st).extract (sa+k) sb).size-1]:=fun x hx=>by
  obtain⟨q,q1,q2,ex⟩:=mem_ext (by omega) hx
  have:=lowB q q1 q2
  rw[KK_get al,KK_get ex] at this
  exact KeyOrd.kle_of_klt this
 have fin:∀ (r:Array Keyed) (st2:SortSt),Res κ ((arrOf st).extract (sa+k) sb).toList ((arrOf st).extract sb (sb+m)).toList r->arrOf st2=arrOf st ->
   (wr (sa+k) r.toList.zipIdx (arrOf st2)).Perm (arrOf st)/\(∀ j:Nat,(j<sa\/sb+nb<=j)->(wr (sa+k) r.toList.zipIdx (arrOf st2))[j]?=(arrOf st)[j]?)/\Seg κ (wr (sa+k) r.toList.zipIdx (arrOf st2)) sa (sb+nb):=fun r st2 hr ea=>by
  rw[ea]
  have hrl:r.toList.length=sb+m-(sa+k):=by
   rw[hr.1.length_eq,List.length_append,Array.length_toList,Array.length_toList,hxs,hys]; omega
  have get:∀ j:Nat,(wr (sa+k) r.toList.zipIdx (arrOf st))[j]?=if sa+k<=j/\j<sb+m then r.toList[j-(sa+k)]? else (arrOf st)[j]?:=fun j=>by
   have:=wr_get (sa+k) r.toList 0 (arrOf st) (by omega) j
   rw[this,Nat.add_zero,hrl,show sa+k+(sb+m-(sa+k))=sb+m by omega]
  have old:∀ j,sa+k<=j->j<sb+m->∃ q,sa+k<=q/\q<sb+m/\KK κ (wr (sa+k) r.toList.zipIdx (arrOf st)) j=KK κ (arrOf st) q:=fun j g1 g2=>by
   have hlt:j-(sa+k)<r.toList.length:=by omega
   have ej:(wr (sa+k) r.toList.zipIdx (arrOf st))[j]?=some r.toList[j-(sa+k)]:=by rw[get,if_pos ⟨g1,g2⟩,List.getElem?_eq_getElem hlt]
   have hm:r.toList[j-(sa+k)]∈((arrOf st).extract (sa+k) sb).toList++((arrOf st).extract sb (sb+m)).toList:=hr.1.mem_iff.mp (List.getElem_mem hlt)
   rcases List.mem_append.mp hm with hm | hm
   ·obtain⟨q,q1,q2,eq⟩:=mem_ext (by omega) hm
    exact⟨q,q1,by omega,by rw[KK_get ej,KK_get eq]⟩
   ·obtain⟨q,q1,q2,eq⟩:=mem_ext (by omega) hm
    exact⟨q,by omega,q2,by rw[KK_get ej,KK_get eq]⟩
  have same:∀ j,(j<sa+k\/sb+m<=j)->KK κ (wr (sa+k) r.toList.zipIdx (arrOf st)) j=KK κ (arrOf st) j:=fun j hj=>KK_congr (by rw[get,if_neg (by omega)])
  refine⟨?_,fun j hj=>by rw[get,if_neg (by omega)],fun i j g1 g2 g3=>?_⟩
  ·have eL:(wr (sa+k) r.toList.zipIdx (arrOf st)).toList=(arrOf st).toList.take (sa+k)++r.toList++(arrOf st).toList.drop (sb+m):=by
    refine List.ext_getElem? fun j=>?_
    rw[Array.getElem?_toList,get]
    have hl1:((arrOf st).toList.take (sa+k)).length=sa+k:=by rw[List.length_take,Array.length_toList]; omega
    by_cases c1:j<sa+k
    ·rw[if_neg (by omega),List.append_assoc,List.getElem?_append_left (by omega),List.getElem?_take_of_lt c1,Array.getElem?_toList]
    ·by_cases c2:j<sb+m
     ·rw[if_pos ⟨by omega,c2⟩,List.getElem?_append_left (by rw[List.length_append]; omega),List.getElem?_append_right (by omega),hl1]
     ·rw[if_neg (by omega),List.getElem?_append_right (by rw[List.length_append]; omega),List.length_append,hl1,hrl,List.getElem?_drop,Array.getElem?_toList]
      congr 1; omega
   have eO:(arrOf st).toList=(arrOf st).toList.take (sa+k)++(((arrOf st).extract (sa+k) sb).toList++((arrOf st).extract sb (sb+m)).toList)++(arrOf st).toList.drop (sb+m):=by
    rw[ext_toList,ext_toList]
    have a1:(arrOf st).toList.drop (sa+k)=((arrOf st).toList.drop (sa+k)).take (sb-(sa+k))++(arrOf st).toList.drop sb:=by
     conv=>lhs; rw[<-List.take_append_drop (sb-(sa+k)) ((arrOf st).toList.drop (sa+k))]
     rw[List.drop_drop]; congr 2; omega
    have a2:(arrOf st).toList.drop sb=((arrOf st).toList.drop sb).take (sb+m-sb)++(arrOf st).toList.drop (sb+m):=by
     conv=>lhs; rw[<-List.take_append_drop (sb+m-sb) ((arrOf st).toList.drop sb)]
     rw[List.drop_drop]; congr 2; omega
    conv=>lhs; rw[<-List.take_append_drop (sa+k) (arrOf st).toList,a1,a2]
    simp only[List.append_assoc]
   refine Array.perm_iff_toList_perm.mpr ?_
   rw[eL]
   conv=>rhs; rw[eO]
   exact List.Perm.append_right _ (List.Perm.append_left _ hr.1)
  ·by_cases ci:i<sa+k
   ·rw[same i (.inl ci)]
    by_cases cj:j<sa+k
    ·rw[same j (.inl cj)]; exact s1 i j g1 g2 (by omega)
    ·by_cases cj2:j<sb+m
     ·obtain⟨q,q1,q2,eq⟩:=old j (by omega) cj2
      rw[eq]
      by_cases cq:q<sb
      ·exact s1 i q g1 (by omega) cq
      ·exact KeyOrd.kle_trans (lowA i g1 ci) (s2 sb q (Nat.le_refl _) (by omega) (by omega))
     ·rw[same j (.inr (by omega))]
      exact KeyOrd.kle_trans (lowA i g1 ci) (s2 sb j (Nat.le_refl _) (by omega) g3)
   ·by_cases ci2:i<sb+m
    ·by_cases cj2:j<sb+m
     ·have hi':i-(sa+k)<r.toList.length:=by omega
      have hj':j-(sa+k)<r.toList.length:=by omega
      have ei:(wr (sa+k) r.toList.zipIdx (arrOf st))[i]?=some r.toList[i-(sa+k)]:=by rw[get,if_pos ⟨by omega,ci2⟩,List.getElem?_eq_getElem hi']
      have ej:(wr (sa+k) r.toList.zipIdx (arrOf st))[j]?=some r.toList[j-(sa+k)]:=by rw[get,if_pos ⟨by omega,cj2⟩,List.getElem?_eq_getElem hj']
      rw[KK_get ei,KK_get ej]
      exact srt_get hr.2 (i:=i-(sa+k)) (j:=j-(sa+k)) (by omega) (List.getElem?_eq_getElem hi') (List.getElem?_eq_getElem hj')
     ·obtain⟨q,q1,q2,eq⟩:=old i (by omega) ci2
      rw[eq,same j (.inr (by omega))]
      by_cases cq:q<sb
      ·exact KeyOrd.kle_trans (s1 q (sb-1) (by omega) (by omega) (by omega)) (highB j (by omega) g3)
      ·exact s2 q j (by omega) (by omega) g3
    ·rw[same i (.inr (by omega)),same j (.inr (by omega))]
     exact s2 i j (by omega) g2 g3
 by_cases c:na-k<=m
 ·rw[if_pos c]
  refine wpS_bind (wpS_mergeLo (a:=(arrOf st).extract (sa+k) sb) (b:=(arrOf st).extract sb (sb+m)) hL hk kX kY hX hY (by omega) (by omega) h1' h2' fun r st2 hr ss=>?_)
  refine wpS_bind (wpS_modify (wpS_bind (wpS_get ?_)))
  obtain⟨f1,f2,f3⟩:=fin r st2 hr ss.arr
  have ef:failedOf st2=none:=ss.failed.trans hf
  have eb:(failedOf st2).isNone=true:=by rw[ef]; rfl
  refine wpS_pure ?_
  show Q (failedOf st2).isNone _
  rw[eb]
  exact h _ f1 f2 ss.kind ef ss.pend f3
 ·rw[if_neg c]
  refine wpS_bind (wpS_mergeHi (a:=(arrOf st).extract (sa+k) sb) (b:=(arrOf st).extract sb (sb+m)) hL hk kX kY hX hY (by omega) (by omega) h1' h2' fun r st2 hr ss=>?_)
  refine wpS_bind (wpS_modify (wpS_bind (wpS_get ?_)))
  obtain⟨f1,f2,f3⟩:=fin r st2 hr ss.arr
  have ef:failedOf st2=none:=ss.failed.trans hf
  have eb:(failedOf st2).isNone=true:=by rw[ef]; rfl
  refine wpS_pure ?_
  show Q (failedOf st2).isNone _
  rw[eb]
  exact h _ f1 f2 ss.kind ef ss.pend f3
end
end Tim
namespace Tim
open PySem PyProof.Rows
abbrev Run:=Nat×Nat×Nat
def Chain:List Run->Nat->Nat->Prop
 | [],lo,hi=>lo=hi
 | (s,n,_)::r,lo,hi=>s=lo/\0<n/\Chain r (lo+n) hi
theorem Chain.le:∀ {l:List Run} {lo hi:Nat},Chain l lo hi->lo+l.length<=hi
 | [],_,_,h=>Nat.le_of_eq h
 | (s,n,_)::r,lo,hi,h=>by
  have:=Chain.le h.2.2
  have:=h.2.1
  rw[List.length_cons]; omega
theorem Chain.mem:∀ {l:List Run} {lo hi:Nat} {x:Run},Chain l lo hi->x∈l->lo<=x.1/\x.1+x.2.1<=hi/\0<x.2.1
 | (s,n,p)::r,lo,hi,x,h,hx=>by
  have h2:=Chain.le h.2.2
  rcases List.mem_cons.mp hx with rfl | hx
  ·exact⟨Nat.le_of_eq h.1.symm,by have:=h.1; dsimp only; omega,h.2.1⟩
  ·obtain⟨a,b,c⟩:=Chain.mem h.2.2 hx
   exact⟨by omega,b,c⟩
theorem Chain.app:∀ {l1 l2:List Run} {lo hi:Nat},Chain (l1++l2) lo hi->∃ m,Chain l1 lo m/\Chain l2 m hi
 | [],_,lo,_,h=>⟨lo,rfl,h⟩
 | (s,n,_)::r,l2,lo,hi,h=>by
  obtain⟨m,a,b⟩:=Chain.app h.2.2
  exact⟨m,⟨h.1,h.2.1,a⟩,b⟩
theorem Chain.cat:∀ {l1 l2:List Run} {lo m hi:Nat},Chain l1 lo m->Chain l2 m hi->Chain (l1++l2) lo hi
 | [],_,lo,m,hi,h,g=>by
  have e:lo=m:=h
  subst e; exact g
 | (s,n,_)::r,l2,lo,m,hi,h,g=>⟨h.1,h.2.1,Chain.cat h.2.2 g⟩
theorem split_two {l:List Run} {i:Nat} {x y:Run} (h1:l[i]?=some x) (h2:l[i+1]?=some y):∃ l1 l2,l=l1++x::y::l2/\l1.length=i:=by
 obtain⟨g1,e1⟩:=List.getElem?_eq_some_iff.mp h1
 obtain⟨g2,e2⟩:=List.getElem?_eq_some_iff.mp h2
 refine⟨l.take i,l.drop (i+2),?_,by rw[List.length_take]; omega⟩
 conv=>lhs; rw[<-List.take_append_drop i l,List.drop_eq_getElem_cons g1,List.drop_eq_getElem_cons g2,e1,e2]
theorem Chain.modify {f:Run->Run} (hf:∀ x,(f x).1=x.1/\(f x).2.1=x.2.1):∀ {l:List Run} {i lo hi:Nat},Chain l lo hi->Chain (l.modify i f) lo hi
 | [],i,_,_,h=>by
  cases i <;> simpa using h
 | (s,n,p)::r,0,lo,hi,h=>by
  obtain⟨a,b⟩:=hf (s,n,p)
  rw[List.modify_zero_cons]
  show Chain (((f (s,n,p)).1,(f (s,n,p)).2.1,(f (s,n,p)).2.2)::r) lo hi
  rw[a,b]; exact h
 | (s,n,p)::r,i+1,lo,hi,h=>by
  rw[List.modify_succ_cons]
  exact⟨h.1,h.2.1,Chain.modify hf h.2.2⟩
theorem mem_modify {f:Run->Run} (hf:∀ x,(f x).1=x.1/\(f x).2.1=x.2.1):∀ {l:List Run} {i:Nat} {x:Run},x∈l.modify i f->∃ y∈l,x.1=y.1/\x.2.1=y.2.1
 | [],i,x,h=>by cases i <;> simp at h
 | z::r,0,x,h=>by
  rw[List.modify_zero_cons] at h
  rcases List.mem_cons.mp h with rfl | h
  ·exact⟨z,List.mem_cons_self,hf z⟩
  ·exact⟨x,List.mem_cons_of_mem _ h,rfl,rfl⟩
 | z::r,i+1,x,h=>by
  rw[List.modify_succ_cons] at h
  rcases List.mem_cons.mp h with rfl | h
  ·exact⟨_,List.mem_cons_self,rfl,rfl⟩
  ·obtain⟨y,a,b⟩:=mem_modify hf h
   exact⟨y,List.mem_cons_of_mem _ a,b⟩
structure Runs (κ:KeyKind) (st₀ st:SortSt) (hi:Nat):Prop where
 perm:(arrOf st).Perm (arrOf st₀)
 kind:kindOf st=kindOf st₀
 failed:failedOf st=none
 chain:Chain (pendingOf st).toList 0 hi
 seg:∀ x∈(pendingOf st).toList,Seg κ (arrOf st) x.1 (x.1+x.2.1)
 le:hi<=(arrOf st₀).size
section
variable {prog:Program} {w:World} {A:Around} {E:Value->Shared->Prop} {s:Shared} {κ:KeyKind} {kd:SortKind}
theorem Runs.size {st₀ st:SortSt} {hi:Nat} (h:Runs κ st₀ st hi):(arrOf st).size=(arrOf st₀).size:=h.perm.size_eq
theorem wpS_mergeR (hL:LtOk prog w A E s κ kd) {st₀ st:SortSt} {hi i:Nat} {Q:Bool->SortSt->Prop} (hk:kindOf st₀=kd) (ka:Keys κ (arrOf st₀)) (R:Runs κ st₀ st hi) (hi2:i+1<(pendingOf st).size)
  (h:∀ st',Runs κ st₀ st' hi->(pendingOf st').size+1=(pendingOf st).size->(∀ j:Nat,hi<=j->(arrOf st')[j]?=(arrOf st)[j]?)->Q true st'):wpS (model prog w) A E s (mergeAt' i) Q st:=by
 have e1:(pendingOf st)[i]?=some (pendingOf st)[i]:=Array.getElem?_eq_getElem (by omega)
 have e2:(pendingOf st)[i+1]?=some (pendingOf st)[i+1]:=Array.getElem?_eq_getElem hi2
 obtain⟨⟨sa,na,pw⟩,e1⟩ : ∃ x:Run,(pendingOf st)[i]?=some x:=⟨_,e1⟩
 obtain⟨⟨sb,nb,pw2⟩,e2⟩ : ∃ x:Run,(pendingOf st)[i+1]?=some x:=⟨_,e2⟩
 obtain⟨l1,l2,el,hl1⟩:=split_two (l:=(pendingOf st).toList) (by rw[Array.getElem?_toList]; exact e1) (by rw[Array.getElem?_toList]; exact e2)
 have hc:=R.chain
 rw[el] at hc
 obtain⟨m,c1,c2⟩:=hc.app
 obtain⟨q1,q2,q3,q4,q5⟩:=c2
 subst q1
 have hle:=q5.le
 have hs:=R.size
 have hR:=R.le
 have ms1:(sa,na,pw)∈(pendingOf st).toList:=by rw[el]; simp
 have ms2:(sb,nb,pw2)∈(pendingOf st).toList:=by rw[el]; simp
 have sg1:=R.seg _ ms1
 have sg2:=R.seg _ ms2
 dsimp only at sg1 sg2
 refine wpS_mergeAtG hL (R.kind.trans hk) (ka.perm R.perm) R.failed e1 e2 q3 q2 q4 (by omega) (by rw[q3]; exact sg1) sg2 fun st' g1 g2 g3 g4 g5 g6=>?_
 have ep:(pendingOf st').toList=l1++(sa,na+nb,pw)::l2:=by
  rw[g5,Array.toList_eraseIdxIfInBounds,Array.toList_setIfInBounds,el,List.set_append_right _ _ (by omega),show i-l1.length=0 by omega,List.set_cons_zero,List.eraseIdx_append_of_length_le (by omega),show i+1-l1.length=1 by omega]
  rfl
 refine h st' ⟨g1.trans R.perm,g3.trans R.kind,g4,?_,fun x hx=>?_,R.le⟩ ?_ fun j hj=>g2 j (.inr (by omega))
 ·rw[ep]
  refine c1.cat ⟨rfl,by omega,?_⟩
  rw[<-Nat.add_assoc]
  exact q5
 ·rw[ep] at hx
  rcases List.mem_append.mp hx with hx | hx
  ·have hb:=c1.mem hx
   refine (R.seg x (by rw[el]; exact List.mem_append_left _ hx)).congr fun j j1 j2=>g2 j (.inl (by omega))
  ·rcases List.mem_cons.mp hx with rfl | hx
   ·dsimp only
    rw[<-Nat.add_assoc,← q3]; exact g6
   ·have hb:=q5.mem hx
    refine (R.seg x (by rw[el]; simp[hx])).congr fun j j1 j2=>g2 j (.inr (by omega))
 ·have z1:(pendingOf st').size=l1.length+(l2.length+1):=by rw[<-Array.length_toList,ep,List.length_append,List.length_cons]
  have z2:(pendingOf st).size=l1.length+(l2.length+2):=by rw[<-Array.length_toList,el,List.length_append,List.length_cons,List.length_cons]
  omega
theorem minRun_pos:∀ (f n r:Nat),1<=n->1<=minRun' f n r
 | 0,n,r,h=>by show 1<=n+r; omega
 | f+1,n,r,h=>by
  rw[minRun'_succ]
  split
  ·omega
  ·exact minRun_pos f (n/2) _ (by omega)
theorem wpS_sortRunsG (hL:LtOk prog w A E s κ kd) {st:SortSt} {Q:Unit->SortSt->Prop} (hk:kindOf st=kd) (ka:Keys κ (arrOf st)) (hf:failedOf st=none) (hp:pendingOf st = #[]) (h2:1<=(arrOf st).size)
  (h:∀ st',(arrOf st').Perm (arrOf st)->failedOf st'=none->SortedToK κ (arrOf st') (arrOf st).size->Q () st'):wpS (model prog w) A E s sortRuns' Q st:=by
 rw[sortRuns'_eq]
 refine wpS_bind (wpS_get ?_)
 dsimp only
 have R0:Runs κ st st 0:=⟨.refl _,rfl,hf,by rw[hp]; exact rfl,fun x hx=>by rw[hp] at hx; simp at hx,Nat.zero_le _⟩
 refine wpS_bind (wpS_mono (wpS_forRange
  (I:=fun x c st'=>∃ lo,c=(none,lo)/\Runs κ st st' lo/\x<=lo)
  (Q:=fun c st'=>∃ lo,c=(none,lo)/\Runs κ st st' lo/\(arrOf st).size<=lo) ?step ?fin ⟨0,rfl,R0,Nat.le_refl _⟩) ?post)
 case fin=>
  rintro c st' ⟨lo,rfl,R,hx⟩
  exact⟨lo,rfl,R,by omega⟩
 case step=>
  rintro x c st1 _ hx ⟨lo,rfl,R,hxl⟩
  dsimp only
  have hz1:=R.size
  by_cases hge:lo≥(arrOf st).size
  ·rw[if_pos hge]
   exact wpS_pure ⟨lo,rfl,R,hge⟩
  rw[if_neg hge]
  have ka1:Keys κ (arrOf st1):=ka.perm R.perm
  refine wpS_bind (wpS_countRunG hL (R.kind.trans hk) ka1 (by omega) (by omega) fun m st2 hB2 hm1 hm2 hs2=>?_)
  dsimp only
  have R2:Runs κ st st2 lo:=⟨hB2.perm.trans R.perm,hB2.kind.trans R.kind,hB2.failed.trans R.failed,by rw[hB2.pend]; exact R.chain,fun x hx=>by
   rw[hB2.pend] at hx
   have hb:=R.chain.mem hx
   exact (R.seg x hx).congr fun j j1 j2=>hB2.out j (.inl (by omega)),R.le⟩
  have both:∀ (st3:SortSt) (n:Nat),Runs κ st st3 lo->1<=n->lo+n<=(arrOf st).size->Seg κ (arrOf st3) lo (lo+n)->True:=fun _ _ _ _ _ _=>trivial
  by_cases hlt:m<minRun' (arrOf st).size (arrOf st).size 0
  ·rw[if_pos hlt]
   refine wpS_bind (wpS_lift (wpAny_rule ⟨rfl,?_⟩))
   have hmp:=minRun_pos (arrOf st).size (arrOf st).size 0 h2
   have hz2:=R2.size
   generalize minRun' (arrOf st).size (arrOf st).size 0=mr at hlt hmp ⊢
   refine wpS_bind (wpS_binarySortG (n:=min ((arrOf st).size-lo) mr) hL (R2.kind.trans hk) (ka.perm R2.perm) (by omega) (by omega) hs2 fun st3 hB3 hs3=>?_)
   simp only[Bool.not_true,Bool.false_eq_true,if_false]
   have R3:Runs κ st st3 lo:=⟨hB3.perm.trans R2.perm,hB3.kind.trans R2.kind,hB3.failed.trans R2.failed,by rw[hB3.pend]; exact R2.chain,fun x hx=>by
    rw[hB3.pend] at hx
    have hb:=R2.chain.mem hx
    exact (R2.seg x hx).congr fun j j1 j2=>hB3.out j (.inl (by omega)),R2.le⟩
   have hn1:1<=min ((arrOf st).size-lo) mr:=by omega
   have hn2:lo+min ((arrOf st).size-lo) mr<=(arrOf st).size:=by omega
   generalize min ((arrOf st).size-lo) mr=n at hs3 hn1 hn2 ⊢
   clear hs2 hB2 hlt
   refine wpS_bind (wpS_get ?_)
   have push:∀ st4:SortSt,Runs κ st st4 lo->Seg κ (arrOf st4) lo (lo+n)->Runs κ st (setPending st4 ((pendingOf st4).push (lo,n,0))) (lo+n):=fun st4 R4 hs4=>
    ⟨R4.perm,R4.kind,R4.failed,by
     show Chain ((pendingOf st4).push (lo,n,0)).toList 0 (lo+n)
     rw[Array.toList_push]
     exact R4.chain.cat ⟨rfl,hn1,rfl⟩,fun x hx=>by
     have hx':x∈((pendingOf st4).push (lo,n,0)).toList:=hx
     rw[Array.toList_push] at hx'
     rcases List.mem_append.mp hx' with hx' | hx'
     ·exact R4.seg x hx'
     ·rw[List.mem_singleton.mp hx']; exact hs4,hn2⟩
   cases hb:(pendingOf st3).back? with
   | none=>
    dsimp only
    exact wpS_bind (wpS_modify (wpS_pure ⟨_,rfl,push st3 R3 hs3,by omega⟩))
   | some last=>
    obtain⟨s1,n1,p1⟩:=last
    dsimp only
    generalize power' (arrOf st).size _ _ _=pw
    refine wpS_bind (wpS_mono (wpS_forRange (I:=fun x c st4=>c=(none,())/\Runs κ st st4 lo/\Seg κ (arrOf st4) lo (lo+n))
     (Q:=fun c st4=>c=(none,())/\Runs κ st st4 lo/\Seg κ (arrOf st4) lo (lo+n)) ?_ (fun _ _ z=>z) ⟨rfl,R3,hs3⟩) ?_)
    ·rintro y c st4 _ _ ⟨rfl,R4,hs4⟩
     refine wpS_bind (wpS_get ?_)
     by_cases g:(pendingOf st4).size>1
     ·rw[if_pos g]
      have eg:(pendingOf st4)[(pendingOf st4).size-2]?=some (pendingOf st4)[(pendingOf st4).size-2]:=Array.getElem?_eq_getElem (by omega)
      rw[eg]
      obtain⟨t1,t2,older⟩:=(pendingOf st4)[(pendingOf st4).size-2]
      dsimp only
      split
      ·exact wpS_pure ⟨rfl,R4,hs4⟩
      ·refine wpS_bind (wpS_mergeR hL hk ka R4 (by omega) fun st5 R5 e5 o5=>?_)
       simp only[Bool.not_true,Bool.false_eq_true,if_false]
       exact wpS_pure ⟨rfl,R5,hs4.congr fun j j1 j2=>o5 j j1⟩
     ·rw[if_neg g]
      exact wpS_pure ⟨rfl,R4,hs4⟩
    ·rintro c st4 ⟨rfl,R4,hs4⟩
     dsimp only
     refine wpS_bind (wpS_modify ?_)
     have R5:Runs κ st (setPending st4 ((pendingOf st4).modify ((pendingOf st4).size-1) fun x=>(x.1,x.2.1,pw))) lo:=
      ⟨R4.perm,R4.kind,R4.failed,by
       show Chain ((pendingOf st4).modify _ _).toList 0 lo
       rw[Array.toList_modify]
       exact Chain.modify (f:=fun x=>(x.1,x.2.1,pw)) (fun _=>⟨rfl,rfl⟩) R4.chain,fun x hx=>by
       have hx':x∈((pendingOf st4).modify ((pendingOf st4).size-1) fun x=>(x.1,x.2.1,pw)).toList:=hx
       rw[Array.toList_modify] at hx'
       obtain⟨y,y1,y2,y3⟩:=mem_modify (f:=fun x=>(x.1,x.2.1,pw)) (fun _=>⟨rfl,rfl⟩) hx'
       rw[y2,y3]
       exact R4.seg y y1,R4.le⟩
     exact wpS_bind (wpS_modify (wpS_pure ⟨_,rfl,push _ R5 hs4,by omega⟩))
  ·rw[if_neg hlt]
   have R3:=R2
   have hs3:=hs2
   have hn1:=hm1
   have hn2:lo+m<=(arrOf st).size:=by omega
   clear hs2 hm1 R2 hB2 hlt
   revert R3 hs3 hn1 hn2
   generalize st2=st3
   generalize m=n
   intro R3 hs3 hn1 hn2
   refine wpS_bind (wpS_get ?_)
   have push:∀ st4:SortSt,Runs κ st st4 lo->Seg κ (arrOf st4) lo (lo+n)->Runs κ st (setPending st4 ((pendingOf st4).push (lo,n,0))) (lo+n):=fun st4 R4 hs4=>
    ⟨R4.perm,R4.kind,R4.failed,by
     show Chain ((pendingOf st4).push (lo,n,0)).toList 0 (lo+n)
     rw[Array.toList_push]
     exact R4.chain.cat ⟨rfl,hn1,rfl⟩,fun x hx=>by
     have hx':x∈((pendingOf st4).push (lo,n,0)).toList:=hx
     rw[Array.toList_push] at hx'
     rcases List.mem_append.mp hx' with hx' | hx'
     ·exact R4.seg x hx'
     ·rw[List.mem_singleton.mp hx']; exact hs4,hn2⟩
   cases hb:(pendingOf st3).back? with
   | none=>
    dsimp only
    exact wpS_bind (wpS_modify (wpS_pure ⟨_,rfl,push st3 R3 hs3,by omega⟩))
   | some last=>
    obtain⟨s1,n1,p1⟩:=last
    dsimp only
    generalize power' (arrOf st).size _ _ _=pw
    refine wpS_bind (wpS_mono (wpS_forRange (I:=fun x c st4=>c=(none,())/\Runs κ st st4 lo/\Seg κ (arrOf st4) lo (lo+n))
     (Q:=fun c st4=>c=(none,())/\Runs κ st st4 lo/\Seg κ (arrOf st4) lo (lo+n)) ?_ (fun _ _ z=>z) ⟨rfl,R3,hs3⟩) ?_)
    ·rintro y c st4 _ _ ⟨rfl,R4,hs4⟩
     refine wpS_bind (wpS_get ?_)
     by_cases g:(pendingOf st4).size>1
     ·rw[if_pos g]
      have eg:(pendingOf st4)[(pendingOf st4).size-2]?=some (pendingOf st4)[(pendingOf st4).size-2]:=Array.getElem?_eq_getElem (by omega)
      rw[eg]
      obtain⟨t1,t2,older⟩:=(pendingOf st4)[(pendingOf st4).size-2]
      dsimp only
      split
      ·exact wpS_pure ⟨rfl,R4,hs4⟩
      ·refine wpS_bind (wpS_mergeR hL hk ka R4 (by omega) fun st5 R5 e5 o5=>?_)
       simp only[Bool.not_true,Bool.false_eq_true,if_false]
       exact wpS_pure ⟨rfl,R5,hs4.congr fun j j1 j2=>o5 j j1⟩
     ·rw[if_neg g]
      exact wpS_pure ⟨rfl,R4,hs4⟩
    ·rintro c st4 ⟨rfl,R4,hs4⟩
     dsimp only
     refine wpS_bind (wpS_modify ?_)
     have R5:Runs κ st (setPending st4 ((pendingOf st4).modify ((pendingOf st4).size-1) fun x=>(x.1,x.2.1,pw))) lo:=
      ⟨R4.perm,R4.kind,R4.failed,by
       show Chain ((pendingOf st4).modify _ _).toList 0 lo
       rw[Array.toList_modify]
       exact Chain.modify (f:=fun x=>(x.1,x.2.1,pw)) (fun _=>⟨rfl,rfl⟩) R4.chain,fun x hx=>by
       have hx':x∈((pendingOf st4).modify ((pendingOf st4).size-1) fun x=>(x.1,x.2.1,pw)).toList:=hx
       rw[Array.toList_modify] at hx'
       obtain⟨y,y1,y2,y3⟩:=mem_modify (f:=fun x=>(x.1,x.2.1,pw)) (fun _=>⟨rfl,rfl⟩) hx'
       rw[y2,y3]
       exact R4.seg y y1,R4.le⟩
     exact wpS_bind (wpS_modify (wpS_pure ⟨_,rfl,push _ R5 hs4,by omega⟩))
 case post=>
  rintro c st1 ⟨lo,rfl,R,hx⟩
  have hlo:lo=(arrOf st).size:=Nat.le_antisymm R.le hx
  subst hlo
  dsimp only
  have hz:=R.chain.le
  rw[Array.length_toList] at hz
  refine wpS_bind (wpS_mono (wpS_forRange (I:=fun x c st2=>c=(none,())/\Runs κ st st2 (arrOf st).size/\(pendingOf st2).size+x<=(arrOf st).size+1)
   (Q:=fun c st2=>c=(none,())/\Runs κ st st2 (arrOf st).size/\(pendingOf st2).size<=1) ?_ ?_ ⟨rfl,R,by omega⟩) ?_)
  ·rintro x c st2 _ hx2 ⟨rfl,R2,hp2⟩
   refine wpS_bind (wpS_get ?_)
   by_cases hp1:(pendingOf st2).size<=1
   ·rw[if_pos hp1]
    exact wpS_pure ⟨rfl,R2,hp1⟩
   rw[if_neg hp1]
   refine wpS_bind (wpS_mergeR hL hk ka R2 (by (repeat' split) <;> omega) fun st3 R3 e3 _=>?_)
   simp only[Bool.not_true,Bool.false_eq_true,if_false]
   exact wpS_pure ⟨rfl,R3,by omega⟩
  ·rintro c st2 ⟨rfl,R2,hp2⟩
   exact⟨rfl,R2,by omega⟩
  ·rintro c st2 ⟨rfl,R2,hp2⟩
   refine wpS_pure (h st2 R2.perm R2.failed ?_)
   have hch:=R2.chain
   have hseg:=R2.seg
   rw[<-Array.length_toList] at hp2
   match hl:(pendingOf st2).toList,hp2 with
   | [],_=>
    rw[hl] at hch
    have:0=(arrOf st).size:=hch
    omega
   | [(s,n,p)],_=>
    rw[hl] at hch hseg
    obtain⟨a,b,c⟩:=hch
    have c':0+n=(arrOf st).size:=c
    have:=hseg (s,n,p) (by simp)
    subst a
    dsimp only at this
    rw[c'] at this
    exact fun i j hij hj=>this i j (Nat.zero_le _) hij hj
end
end Tim
namespace Tim
open PySem PyProof.Rows
abbrev Keeps (h h':Heap):Prop:=∀ b o,h.get? b=some o->h'.get? b=some o
theorem sortedHeap_at {h:Heap} {a:Addr} {vs:List Value} {n:Nat} {out:Array Value} (ho:h.get? a=some (seqObj "list" vs.toArray n)):∃ m,(sortedHeap h a vs out).get? a=some (seqObj "list" out m):=by
 have ha:a<h.objs.size:=Heap.lt_size ho
 obtain⟨e1,ho1⟩ : ∃ e1,(h.update a (Obj.mapSeq fun _=>#[])).get? a=some (seqObj "list" #[] e1):=⟨_,get?_update_seq ho (fun _=>#[])⟩
 have ho6:(((h.update a (Obj.mapSeq fun _=>#[])).push (seqObj "tuple" vs.toArray 0)).push (seqObj "list" #[] 0)).get? a=some (seqObj "list" #[] e1):=by
  rw[Heap.get?_push_ne _ _ _ (by rw[size_push',Heap.size_update]; exact Nat.ne_of_lt (Nat.lt_succ_of_lt ha)),Heap.get?_push_ne _ _ _ (by rw[Heap.size_update]; exact Nat.ne_of_lt ha)]
  exact ho1
 exact⟨_,get?_update_seq ho6 fun _=>out⟩
theorem sortedHeap_ne {h:Heap} {a b:Addr} {vs:List Value} {out:Array Value} {o:Obj} (hb:b≠a) (e:h.get? b=some o):(sortedHeap h a vs out).get? b=some o:=by
 unfold sortedHeap
 rw[Heap.get?_update_ne _ _ _ _ hb]
 refine Heap.get?_push_of_some _ (Heap.get?_push_of_some _ ?_)
 rw[Heap.get?_update_ne _ _ _ _ hb]
 exact e
section
variable {prog:Program} {w:World} {A:Around} {E:Value->Shared->Prop} {s:Shared} {κ:KeyKind} {kd:SortKind}
theorem list_sort_G {a:Addr} {vs:List Value} {n:Nat} {P:Fin->Shared->Prop} (ho:s.heap.get? a=some (seqObj "list" vs.toArray n)) (hz:vs.length<=sizeLine) (h0:Keys κ (pairsOf vs))
  (hst:∀ h6:Heap,(∀ b o,b≠a->s.heap.get? b=some o->h6.get? b=some o)->2<=vs.length->LtOk prog w A E { s with heap:=h6 } κ kd /\
   ∀ Q:SortKind->Shared->Prop,Q kd { s with heap:=h6 }->wpAny (model prog w) A (keyKind' vs.toArray) Q E { s with heap:=h6 })
  (h:∀ st':SortSt,(arrOf st').Perm (pairsOf vs)->SortedToK κ (arrOf st') (pairsOf vs).size->P (.done (.ret .none)) { s with heap:=sortedHeap s.heap a vs ((arrOf st').map (·.2)) }) :
  wpAny (model prog w) A (Builtin.«list.sort» ⟨[.ref a],[]⟩) P E s:=by
 rw[list_sort_plain]
 have ha:a<s.heap.objs.size:=Heap.lt_size ho
 have hsz:vs.toArray.size=vs.length:=by simp
 refine wpAny_bind (listItems_at ho rfl ?_)
 refine wpAny_bind (listUpdate_at ho rfl ?_ (by rw[hsz]; exact hz) (Nat.zero_le _))
 obtain⟨e1,ho1⟩ : ∃ e1,(s.heap.update a (Obj.mapSeq fun _=>#[])).get? a=some (seqObj "list" #[] e1):=⟨_,get?_update_seq ho (fun _=>#[])⟩
 refine wpAny_bind (seqEpoch_at ho1 rfl ?_)
 refine wpAny_bind (wpAny_newTuple ?_)
 refine wpAny_bind (wpAny_newList ?_)
 refine wpAny_holding ?_
 have ho6:(((s.heap.update a (Obj.mapSeq fun _=>#[])).push (seqObj "tuple" vs.toArray 0)).push (seqObj "list" #[] 0)).get? a=some (seqObj "list" #[] e1):=by
  rw[Heap.get?_push_ne _ _ _ (by rw[size_push',Heap.size_update]; exact Nat.ne_of_lt (Nat.lt_succ_of_lt ha)),Heap.get?_push_ne _ _ _ (by rw[Heap.size_update]; exact Nat.ne_of_lt ha)]
  exact ho1
 have hk6:∀ b o,b≠a->s.heap.get? b=some o->(((s.heap.update a (Obj.mapSeq fun _=>#[])).push (seqObj "tuple" vs.toArray 0)).push (seqObj "list" #[] 0)).get? b=some o:=fun b o hb e=>by
  refine Heap.get?_push_of_some _ (Heap.get?_push_of_some _ ?_)
  rw[Heap.get?_update_ne _ _ _ _ hb]
  exact e
 show wpAny (model prog w) A _ P E { s with heap:=((s.heap.update a (Obj.mapSeq fun _=>#[])).push (seqObj "tuple" vs.toArray 0)).push (seqObj "list" #[] 0) }
 dsimp only
 have fin:=h
 by_cases h2:vs.toArray.size<2
 ·rw[if_pos h2,if_pos h2]
  refine wpAny_bind (wpAny_pure ?_)
  rw[StateT.run_pure]
  refine wpAny_bind (wpAny_pure ?_)
  dsimp only
  refine wpAny_bind (seqEpoch_at ho6 rfl ?_)
  refine wpAny_bind (listUpdate_at ho6 rfl ?_ (Nat.zero_le _) (hsz2:=by rw[Array.size_map]; show (pairsOf vs).size<=_; rw[pairsOf_size,sizeLine_eq]; omega))
  simp only[bne_self_eq_false,Bool.false_eq_true,if_false]
  refine wpAny_pure (fin (SortSt.mk' general' (vs.toArray.zip vs.toArray) #[] 7 none) (Array.Perm.refl _) ?_)
  intro i j hij hj
  have:i=j:=by rw[pairsOf_size] at hj; omega
  subst this; exact KeyOrd.kle_refl _
 ·rw[if_neg h2,if_neg h2]
  obtain⟨hL,hkk⟩:=hst _ hk6 (by omega)
  refine wpAny_bind (hkk _ ?_)
  refine wpAny_bind (wpAny_mono (wpS_sortRunsG (κ:=κ) (kd:=kd) hL (st:=SortSt.mk' kd (pairsOf vs) #[] 7 none)
   (Q:=fun _ st'=>(arrOf st').Perm (pairsOf vs)/\failedOf st'=none/\SortedToK κ (arrOf st') (pairsOf vs).size)
   rfl h0 rfl rfl (by show 1<=(pairsOf vs).size; rw[pairsOf_size]; omega) fun st' a1 a2 a3=>⟨a1,a2,a3⟩) ?_ fun _ _ e=>e)
  rintro ⟨⟨⟩,st'⟩ s' ⟨rfl,hp,hf,hs⟩
  dsimp only
  refine wpAny_bind (seqEpoch_at ho6 rfl ?_)
  refine wpAny_bind (listUpdate_at ho6 rfl ?_ (Nat.zero_le _) (hsz2:=by refine Nat.le_trans (Nat.le_of_eq ((Array.size_map ..).trans (hp.size_eq.trans (pairsOf_size _)))) ?_; omega))
  rw[hf]
  simp only[bne_self_eq_false,Bool.false_eq_true,if_false]
  exact wpAny_pure (fin st' hp hs)
def ky (κ:KeyKind) (v:Value):κ.α:=(κ.keyOf v).getD κ.dflt
theorem zip_map (vs:List Value):vs.zip vs=vs.map fun v=>(v,v):=by
 induction vs with
 | nil=>rfl
 | cons x r ih=>rw[List.zip_cons_cons,ih]; rfl
theorem pairs_list (vs:List Value):(pairsOf vs).toList=vs.map fun v=>(v,v):=by
 show (vs.toArray.zip vs.toArray).toList=_
 rw[Array.toList_zip]
 exact zip_map vs
theorem keys_pairs {vs:List Value} (h:∀ v∈vs,∃ a,κ.keyOf v=some a):Keys κ (pairsOf vs):=fun i p e=>by
 have hm:p∈(pairsOf vs).toList:=Array.mem_toList_iff.mpr (Array.mem_of_getElem? e)
 rw[pairs_list] at hm
 obtain⟨v,hv,rfl⟩:=List.mem_map.mp hm
 exact h v hv
theorem out_of {vs:List Value} {arr:Array Keyed} (hp:arr.Perm (pairsOf vs)) (hs:SortedToK κ arr (pairsOf vs).size):(arr.map (·.2)).toList.Perm vs/\(arr.map (·.2)).toList.Pairwise fun x y=>κ.kle (ky κ x) (ky κ y):=by
 have hl:=Array.perm_iff_toList_perm.mp hp
 rw[pairs_list] at hl
 have same:∀ p∈arr.toList,p.1=p.2:=fun p hm=>by
  have:=hl.mem_iff.mp hm
  obtain⟨v,_,rfl⟩:=List.mem_map.mp this
  rfl
 rw[Array.toList_map]
 refine⟨?_,?_⟩
 ·have:=hl.map (·.2)
  rw[List.map_map] at this
  have e:(vs.map ((fun p:Keyed=>p.2) ∘ fun v=>(v,v)))=vs:=by
   have:((fun p:Keyed=>p.2) ∘ fun v:Value=>(v,v))=id:=rfl
   rw[this,List.map_id]
  rw[e] at this
  exact this
 ·refine List.pairwise_map.mpr (List.pairwise_iff_getElem.mpr fun i j hi hj hij=>?_)
  have hz:arr.size=(pairsOf vs).size:=hp.size_eq
  rw[Array.length_toList] at hi hj
  have g:=hs i j (Nat.le_of_lt hij) (by omega)
  have ei:arr[i]?=some arr.toList[i]:=by rw[Array.getElem_toList,Array.getElem?_eq_getElem hi]
  have ej:arr[j]?=some arr.toList[j]:=by rw[Array.getElem_toList,Array.getElem?_eq_getElem hj]
  rw[KK_get ei,KK_get ej] at g
  have si:=same _ (List.getElem_mem (l:=arr.toList) (n:=i) (by rw[Array.length_toList]; exact hi))
  have sj:=same _ (List.getElem_mem (l:=arr.toList) (n:=j) (by rw[Array.length_toList]; exact hj))
  unfold kk at g
  rw[si,sj] at g
  exact g
theorem sorted_G {v:Value} {Q:Value->Shared->Prop} {R:List Value->Prop}
  (hcol:∀ Q':List Value->Shared->Prop,(∀ vs h1 tk,Keeps s.heap h1->s.heap.objs.size<=h1.objs.size->R vs->Q' vs { s with heap:=h1,toks:=tk })->wpAny (model prog w) A.in1 (collect v) Q' E s)
  (hz:∀ vs,R vs->vs.length<=sizeLine) (h0:∀ vs,R vs->∀ v∈vs,∃ a,κ.keyOf v=some a)
  (hst:∀ vs h6 tk,R vs->Keeps s.heap h6->2<=vs.length->LtOk prog w A.in1.in1 E { s with heap:=h6,toks:=tk } κ kd /\
   ∀ Q:SortKind->Shared->Prop,Q kd { s with heap:=h6,toks:=tk }->wpAny (model prog w) A.in1.in1 (keyKind' vs.toArray) Q E { s with heap:=h6,toks:=tk })
  (h:∀ (vs out:List Value) (l:Addr) (h2:Heap) (tk m:Nat),R vs->out.Perm vs->out.Pairwise (fun x y=>κ.kle (ky κ x) (ky κ y))->Keeps s.heap h2->s.heap.objs.size<=l->h2.get? l=some (seqObj "list" out.toArray m)->Q (.ref l) { s with heap:=h2,toks:=tk }) :
  wpAny (model prog w) A (call (.builtin "sorted") [v]) Q E s:=by
 refine Calls.call_function_entry kind_sorted plain_sorted entry_sorted (args_sorted1 _) ?_
 unfold Builtin.«sorted»
 refine wpAny_bind (m:=checkCount "sorted" 1 1 _) (wpAny_pure ?_)
 refine wpAny_bind (hcol _ fun vs h1 tk hk hle hR=>?_)
 refine wpAny_bind (wpAny_newList (hsz:=hz vs hR) ?_)
 have hoL:(h1.push (seqObj "list" vs.toArray 0)).get? h1.objs.size=some (seqObj "list" vs.toArray 0):=Heap.get?_push_size _ rfl
 show wpAny _ _ _ _ _ { s with heap:=h1.push (seqObj "list" vs.toArray 0),toks:=tk }
 refine wpAny_bind (wpAny_holding (wpAny_call_entry slot_list_sort ⟨_,hoL,rfl⟩ entry_list_sort (list_sort_G (κ:=κ) (kd:=kd) hoL (hz vs hR) (keys_pairs (h0 vs hR)) ?_ fun st' a1 a2=>⟨_,rfl,?_⟩) (args_list_sort _)))
 ·intro h6 k6 h2
  refine hst vs h6 tk hR (fun b o e=>?_) h2
  have e1:=hk b o e
  exact k6 b o (Nat.ne_of_lt (Heap.lt_size e1)) (Heap.get?_push_of_some _ e1)
 ·obtain⟨p1,p2⟩:=out_of a1 a2
  obtain⟨m,em⟩:=sortedHeap_at (out:=(arrOf st').map (·.2)) hoL
  refine wpAny_pure ⟨_,rfl,h vs _ h1.objs.size _ tk m hR p1 p2 (fun b o e=>?_) hle (by rw[Array.toArray_toList]; exact em)⟩
  have e1:=hk b o e
  exact sortedHeap_ne (Nat.ne_of_lt (Heap.lt_size e1)) (Heap.get?_push_of_some _ e1)
end
end Tim
namespace Tim
open PySem PyProof.Rows
def lx:List Int->List Int->Bool
 | [],[]=>false
 | [],_::_=>true
 | _::_,[]=>false
 | x::xs,y::ys=>if x=y then lx xs ys else decide (x<y)
theorem lx_irrefl:∀ a,lx a a=false
 | []=>rfl
 | x::xs=>by rw[lx,if_pos rfl]; exact lx_irrefl xs
theorem lx_trans:∀ a b c,lx a b=true->lx b c=true->lx a c=true
 | [],[],_,h,_=>by cases h
 | [],_::_,[],_,h=>by cases h
 | [],_::_,_::_,_,_=>rfl
 | _::_,[],_,h,_=>by cases h
 | _::_,_::_,[],_,h=>by cases h
 | x::xs,y::ys,z::zs,h1,h2=>by
  rw[lx] at h1 h2 ⊢
  by_cases e1:x=y
  ·subst e1
   rw[if_pos rfl] at h1
   by_cases e2:x=z
   ·subst e2
    rw[if_pos rfl] at h2 ⊢
    exact lx_trans xs ys zs h1 h2
   ·rw[if_neg e2] at h2 ⊢; exact h2
  ·rw[if_neg e1] at h1
   have l1:=of_decide_eq_true h1
   by_cases e2:y=z
   ·subst e2
    rw[if_neg e1]; exact h1
   ·rw[if_neg e2] at h2
    have l2:=of_decide_eq_true h2
    rw[if_neg (by omega)]
    exact decide_eq_true (by omega)
theorem lx_neg:∀ a b c,lx a c=true->lx a b=true\/lx b c=true
 | [],[],_,h=>.inr h
 | [],_::_,_,_=>.inl rfl
 | _::_,_,[],h=>by cases h
 | _::_,[],_::_,_=>.inr rfl
 | x::xs,y::ys,z::zs,h=>by
  rw[lx] at h ⊢
  rw[lx]
  by_cases e1:x=y
  ·subst e1
   rw[if_pos rfl]
   by_cases e2:x=z
   ·subst e2
    rw[if_pos rfl] at h ⊢
    exact lx_neg xs ys zs h
   ·rw[if_neg e2] at h ⊢; exact .inr h
  ·rw[if_neg e1]
   by_cases e2:x=z
   ·subst e2
    rw[if_neg (fun z=>e1 z.symm)]
    by_cases l:x<y
    ·exact .inl (decide_eq_true l)
    ·exact .inr (decide_eq_true (by omega))
   ·rw[if_neg e2] at h
    have l:=of_decide_eq_true h
    by_cases l1:x<y
    ·exact .inl (decide_eq_true l1)
    ·right
     rw[if_neg (by omega)]
     exact decide_eq_true (by omega)
theorem lx_total:∀ a b,lx a b=false->lx b a=false->a=b
 | [],[],_,_=>rfl
 | [],_::_,h,_=>by cases h
 | _::_,[],_,h=>by cases h
 | x::xs,y::ys,h1,h2=>by
  rw[lx] at h1 h2
  by_cases e:x=y
  ·subst e
   rw[if_pos rfl] at h1 h2
   rw[lx_total xs ys h1 h2]
  ·rw[if_neg e] at h1
   rw[if_neg (fun z=>e z.symm)] at h2
   have:=of_decide_eq_false h1
   have:=of_decide_eq_false h2
   omega
def intsOf:List Value->Option (List Int)
 | []=>some []
 | .int n _::r=>(intsOf r).map (n::·)
 | _::_=>none
theorem intsOf_are:∀ {vs:List Value} {ns:List Int},IntsAre vs ns->intsOf vs=some ns
 | _,_,.nil=>rfl
 | _,_,.cons n t h=>by rw[intsOf,intsOf_are h]; rfl
theorem intsOf_some:∀ {vs:List Value} {ns:List Int},intsOf vs=some ns->IntsAre vs ns
 | [],_,h=>by cases h; exact .nil
 | v::r,ns,h=>by
  cases v with
  | int n t=>
   rw[intsOf] at h
   obtain⟨ms,hm,rfl⟩:=Option.map_eq_some_iff.mp h
   exact .cons n t (intsOf_some hm)
  | _=>cases h
def keyAt (h:Heap):Value->Option (List Int)
 | .ref a=>match h.get? a with
  | some o=>match o.data with
   | .seq xs _=>if o.cls == .type "tuple" then intsOf xs.toList else none
   | _=>none
  | none=>none
 | _=>none
theorem keyAt_some {h:Heap} {v:Value} {ns:List Int} (e:keyAt h v=some ns):∃ a o xs n,v=.ref a/\h.get? a=some o/\o.cls=.type "tuple" /\ o.data=.seq xs n/\IntsAre xs.toList ns:=by
 cases v with
 | ref a=>
  rw[keyAt] at e
  cases ho:h.get? a with
  | none=>rw[ho] at e; cases e
  | some o=>
   rw[ho] at e
   dsimp only at e
   cases hd:o.data with
   | seq xs n=>
    rw[hd] at e
    dsimp only at e
    split at e
    ·rename_i hc
     exact⟨a,o,xs,n,rfl,ho,by simpa using hc,hd,intsOf_some e⟩
    ·cases e
   | _=>rw[hd] at e; cases e
 | _=>cases e
theorem keyAt_of {h:Heap} {a:Addr} {o:Obj} {xs:Array Value} {n:Nat} {ns:List Int} (ho:h.get? a=some o) (hc:o.cls=.type "tuple") (hd:o.data=.seq xs n) (hi:IntsAre xs.toList ns):keyAt h (.ref a)=some ns:=by
 rw[keyAt,ho]
 dsimp only
 rw[hd]
 dsimp only
 rw[hc,if_pos (by rfl),intsOf_are hi]
def tupK (h:Heap):KeyKind where
 α:=List Int
 blt:=lx
 irrefl:=lx_irrefl
 trans:=lx_trans
 negTrans:=lx_neg
 total:=lx_total
 keyOf:=keyAt h
 dflt:=[]
section
variable {prog:Program} {w:World} {A:Around} {E:Value->Shared->Prop} {s:Shared}
theorem lex_run {b fin:Bool}:∀ {us ws:List Value} {ns ms:List Int} {i:Nat} {Q:Bool->Shared->Prop},IntsAre us ns->IntsAre ws ms->(ns.length=ms.length->fin=false)->(ns.length<ms.length->fin=true)->(ms.length<ns.length->fin=false)->Q (lx ns ms) s->PySem.W.KatLex prog w A b fin Q (us.zip ws) i s
 | _,_,_,_,i,Q,.nil,.nil,h1,_,_,q=>by
  rw[lx] at q
  show Q fin s
  rw[h1 rfl]; exact q
 | _,_,_,_,i,Q,.nil,.cons m t _,_,h2,_,q=>by
  rw[lx] at q
  show Q fin s
  rw[h2 (by simp)]; exact q
 | _,_,_,_,i,Q,.cons n t _,.nil,_,_,h3,q=>by
  rw[lx] at q
  show Q fin s
  rw[h3 (by simp)]; exact q
 | _,_,_,_,i,Q,.cons (ns:=ns) n t hx,.cons (ns:=ms) m u hy,h1,h2,h3,q=>by
  rw[lx] at q
  refine PySem.W.kat_cons (wpAny_eqBool_int ?_)
  by_cases e:n=m
  ·subst e
   rw[if_pos rfl] at q
   rw[show (n == n)=true by simp]
   exact PySem.W.kat_yes (lex_run hx hy (fun z=>h1 (by simp[z])) (fun z=>h2 (by simp; omega)) (fun z=>h3 (by simp; omega)) q)
  ·rw[if_neg e] at q
   rw[show (n == m)=false by simpa using e]
   refine PySem.W.kat_no ?_
   cases hb:(b&&i == 0) with
   | true=>exact oneLt_int q
   | false=>exact PySem.W.kat_one _ _ (lt_int q)
theorem lt_tup {h:Heap} {b:Bool} (hk:Keeps h s.heap):LtOk prog w A E s (tupK h) (tuples' b):=by
 intro st x y Q hkd hx hy q
 obtain⟨ns,hx⟩:=hx
 obtain⟨ms,hy⟩:=hy
 obtain⟨a,o,xs,n,ex,ho,hc,hd,hi⟩:=keyAt_some hx
 obtain⟨a2,o2,ys,n2,ey,ho2,hc2,hd2,hi2⟩:=keyAt_some hy
 have kx:kk (tupK h) x=ns:=by unfold kk; rw[hx]; rfl
 have ky':kk (tupK h) y=ms:=by unfold kk; rw[hy]; rfl
 rw[kx,ky'] at q
 have q':Q (some (lx ns ms)) st:=q
 rw[lt'_eq]
 refine wpS_bind (wpS_get ?_)
 rw[hkd,ex,ey]
 refine wpS_bind (wpS_lift (wpAny_attempt (PySem.W.kat_lt (hk _ _ ho) hd (hk _ _ ho2) hd2 ?_)))
 have l1:=hi.length
 have l2:=hi2.length
 rw[Array.length_toList] at l1 l2
 refine lex_run hi hi2 (fun z=>decide_eq_false (by omega)) (fun z=>decide_eq_true (by omega)) (fun z=>decide_eq_false (by omega)) ?_
 exact⟨rfl,wpS_pure q'⟩
end
end Tim
namespace L3
open PySem PySem.Spec PyProof.Rows L2 Tim
def RawD (h:Heap) (d:Addr) (es:Array DictEntry) (ep:Nat):Prop:=∃ o,h.get? d=some o/\o.cls=.type "dict" /\ o.data=.dict es ep
theorem RawD.typeIs {s:Shared} {d:Addr} {es:Array DictEntry} {ep:Nat} (h:RawD s.heap d es ep):s.TypeIs (.ref d) "dict" := let ⟨o,h1,h2,_⟩:=h; ⟨o,h1,h2⟩
theorem RawD.at {h h':Heap} {d:Addr} {es:Array DictEntry} {ep:Nat} (x:RawD h d es ep) (k:∀ o,h.get? d=some o->h'.get? d=some o):RawD h' d es ep:=let ⟨o,h1,h2⟩:=x; ⟨o,k o h1,h2⟩
theorem RawD.lt {h:Heap} {d:Addr} {es:Array DictEntry} {ep:Nat} (x:RawD h d es ep):d<h.objs.size:=let ⟨_,h1,_⟩:=x; Heap.lt_size h1
section
variable {prog:Program} {w:World} {A:Around} {E:Value->Shared->Prop} {s:Shared} {d it:Addr} {es:Array DictEntry} {ep i:Nat}
theorem raw_iter {Q:Value->Shared->Prop} (lo:(d == sysModules)=false) (m:RawD s.heap d es ep)
  (q:Q (.ref s.heap.objs.size) { s with heap:=s.heap.push { cls:=.type "dict_keyiterator",data:=.fields #[.ref d,.int 0 0,.int es.size 0,.int ep 0] } }):wpAny (model prog w) A (pyIter (.ref d)) Q E s:=by
 obtain⟨o,h1,h2,h3⟩:=id m
 refine wpAny_pyIter_slot m.typeIs F.slot_dict_iter (wpAny_call_entry F.slot_dict_iter m.typeIs F.entry_dict_iter ?_ (F.args_dict_iter_1 _))
 show wpAny _ _ (bind _ _) _ _ s
 refine wpAny_bind (wpAny_bind (wpAny_notOrdered_dict m.typeIs (wpAny_pure ?_)))
 refine wpAny_bind (show wpAny _ _ (pure d) _ _ s from wpAny_pure ?_)
 show wpAny _ _ (bind (Builtin.Dict.showsAll d) _) _ _ s
 unfold Builtin.Dict.showsAll
 rw[if_neg (by rw[lo]; exact Bool.false_ne_true)]
 refine wpAny_bind (wpAny_pure ?_)
 refine (wpAny_bind (wpAny_dictEntries h1 h3 (wpAny_bind (wpAny_dictEpoch h1 h3 ?_))))
 refine wpAny_bind (wpAny_newObj_type (wpAny_pure ⟨_,rfl, "dict_keyiterator",_,⟨_,Heap.get?_push_size _ rfl,rfl⟩,F.slot_dict_keyiterator_next.lookup,?_⟩))
 simpa [rawInt] using q
theorem raw_next {e:DictEntry} {Q:Option Value->Shared->Prop} (hit:s.heap.IsKeyIter it d i es.size ep) (m:RawD s.heap d es ep) (hx:es[i]?=some e)
  (q:∀ h',h'.IsKeyIter it d (i+1) es.size ep->Heap.SameBut it s.heap h'->Q (some e.key) { s with heap:=h' }):wpAny (model prog w) A (pyNext (.ref it)) Q E s:=by
 obtain⟨o,ho,hc,hd⟩:=id hit
 obtain⟨od,m1,m2,m3⟩:=id m
 have own:Builtin.Dict_items.ownsTuple "dict_keyiterator" = false:=by decide
 unfold pyNext
 refine wpAny_bind (wpAny_attempt (wpAny_callSpecial?_slot (name:=Str.ofString "__next__") hit.typeIs F.slot_dict_keyiterator_next (wpAny_call_entry F.slot_dict_keyiterator_next hit.typeIs F.entry_dict_keyiterator_next ?_ (F.args_dict_keyiterator_next_1 _))))
 refine wpAny_bind (wpAny_pure (wpAny_bind (wpAny_bind ?_)))
 first | refine wpAny_bind (wpAny_typeNameOfWhole_keyiter hit.typeIs (wpAny_pure ?_)) | refine wpAny_bind (wpAny_typeNameOf_keyiter hit.typeIs (wpAny_pure ?_))
 refine wpAny_bind (wpAny_fieldsOf ho hd ?_)
 simp only[own,Bool.false_eq_true,if_false]
 show wpAny _ _ (if (Value.ref d == Value.none)=true then _ else _) _ _ s
 rw[if_neg (by exact Bool.false_ne_true)]
 refine wpAny_bind (wpAny_pure (wpAny_bind (wpAny_dictEntries m1 m3 ?_)))
 rw[if_neg (by simp)]
 refine wpAny_bind (wpAny_pure (wpAny_bind (wpAny_dictEpoch m1 m3 ?_)))
 rw[if_neg (by simp)]
 refine wpAny_pure ?_
 simp only[show ¬ ((i:Int)<0) from by omega,if_false,Int.toNat_natCast,hx]
 refine wpAny_bind ?_
 first | refine wpAny_bind (wpAny_typeNameOfWhole_keyiter hit.typeIs (wpAny_pure ?_)) | refine wpAny_bind (wpAny_typeNameOf_keyiter hit.typeIs (wpAny_pure ?_))
 refine wpAny_bind (wpAny_isOneOf_keyiter hit.typeIs ?_)
 show wpAny _ _ (setField (.ref it) 1 (rawInt ((i:Int)+1)) >>= _) _ _ s
 refine wpAny_bind (wpAny_setField ho hd (by simp) ?_)
 have hit':(s.heap.update it (Obj.mapFields (·.setIfInBounds 1 (rawInt ((i:Int)+1))))).IsKeyIter it d (i+1) es.size ep:=
  ⟨_,Heap.get?_update_self _ ho (Obj.isFreed_of_fields (Obj.data_mapFields hd _)),(Obj.cls_mapFields ..).trans hc,by rw[Obj.data_mapFields hd]; simp[rawInt]⟩
 refine wpAny_bind (wpAny_holding (wpAny_bind (wpAny_isOneOf_keyiter (s:={ s with heap:=_ }) hit'.typeIs ?_)))
 show wpAny _ _ (pure e.key) _ _ _
 exact wpAny_pure (wpAny_pure ⟨_,rfl,wpAny_pure (q _ hit' (Heap.SameBut.update ..))⟩)
theorem raw_end {Q:Option Value->Shared->Prop} (hh:A.handled=none) (hit:s.heap.IsKeyIter it d i es.size ep) (m:RawD s.heap d es ep) (hx:es.size<=i)
  (q:∀ h',Heap.ExtBut it s.heap h'->Q none { s with heap:=h' }):wpAny (model prog w) A (pyNext (.ref it)) Q E s:=by
 obtain⟨o,ho,hc,hd⟩:=id hit
 obtain⟨od,m1,m2,m3⟩:=id m
 have own:Builtin.Dict_items.ownsTuple "dict_keyiterator" = false:=by decide
 unfold pyNext
 refine wpAny_bind (wpAny_attempt (wpAny_callSpecial?_slot (name:=Str.ofString "__next__") hit.typeIs F.slot_dict_keyiterator_next (wpAny_call_entry F.slot_dict_keyiterator_next hit.typeIs F.entry_dict_keyiterator_next ?_ (F.args_dict_keyiterator_next_1 _))))
 refine wpAny_bind (wpAny_pure (wpAny_bind (wpAny_bind ?_)))
 first | refine wpAny_bind (wpAny_typeNameOfWhole_keyiter hit.typeIs (wpAny_pure ?_)) | refine wpAny_bind (wpAny_typeNameOf_keyiter hit.typeIs (wpAny_pure ?_))
 refine wpAny_bind (wpAny_fieldsOf ho hd ?_)
 simp only[own,Bool.false_eq_true,if_false]
 show wpAny _ _ (if (Value.ref d == Value.none)=true then _ else _) _ _ s
 rw[if_neg (by exact Bool.false_ne_true)]
 refine wpAny_bind (wpAny_pure (wpAny_bind (wpAny_dictEntries m1 m3 ?_)))
 rw[if_neg (by simp)]
 refine wpAny_bind (wpAny_pure (wpAny_bind (wpAny_dictEpoch m1 m3 ?_)))
 rw[if_neg (by simp)]
 refine wpAny_pure ?_
 simp only[show ¬ ((i:Int)<0) from by omega,if_false,Int.toNat_natCast,Array.getElem?_eq_none hx]
 refine wpAny_bind ?_
 first | refine wpAny_bind (wpAny_typeNameOfWhole_keyiter hit.typeIs (wpAny_pure ?_)) | refine wpAny_bind (wpAny_typeNameOf_keyiter hit.typeIs (wpAny_pure ?_))
 show wpAny _ _ (setField (.ref it) 0 .none >>= _) _ _ s
 refine wpAny_bind (wpAny_setField ho hd (by simp) ?_)
 show wpAny _ _ (newExc (.type "StopIteration") [] >>= _) _ _ _
 refine wpAny_bind ?_
 simp only[newExc,newTuple]
 refine wpAny_bind (wpAny_newObj_type ?_ (by size_fits))
 refine wpAny_bind (m:=firstArgMember _ _) (wpAny_of_eq (a:=Value.none) (by first | rfl | (simp only[firstArgMember]; rfl)) ?_)
 refine wpAny_newObj_type ?_ (by size_fits)
 simp only[raiseNew]
 refine wpAny_bind (wpAny_handled ?_)
 rw[show A.in1.handled=none from hh]
 refine wpAny_bind (wpAny_pure (wpAny_throw ?_))
 refine wpAny_bind (wpAny_isInstance (T := "StopIteration") (b:=true) ⟨_,Heap.get?_push_size _ rfl,rfl⟩ isSubtype_stop ?_)
 exact wpAny_pure (q _ (((Heap.SameBut.update ..).extBut.push _).push _))
theorem raw_walk (hh:A.handled=none) (I d:Addr) (hne:d≠I) (es:Array DictEntry) (ep:Nat) :
  Walks prog w A I [I,d] [I] es.size (fun i v=>∃ e,es[i]?=some e/\v=e.key) (fun i h=>h.IsKeyIter I d i es.size ep/\RawD h d es ep) where
 sub:=fun b hb=>by simp at hb; simp[hb]
 frame:=fun _ _ _ st hk=>⟨st.1.at fun o e=>hk I (by simp) o e,st.2.at fun o e=>hk d (by simp) o e⟩
 item:=fun i s Q E hi st hQ=>by
  have hx:es[i]?=some es[i]:=Array.getElem?_eq_getElem hi
  refine raw_next st.1 st.2 hx fun h' hit' hs'=>?_
  exact hQ _ h' s.toks ⟨_,hx,rfl⟩ ⟨hit',st.2.at fun o e=>(hs'.2 d hne).trans e⟩ fun b o hb e=>hs'.extBut b o (fun h=>hb (by simp[h])) e
 done:=fun s Q E st hQ=>raw_end hh st.1 st.2 (Nat.le_refl _) fun h' he'=>hQ h' s.toks fun b o hb e=>he' b o (fun h=>hb (by simp[h])) e
 self:=fun _ _ _ _ st hQ=>wpAny_pyIter_keyiter st.1 hQ
theorem raw_src (lo:(d == sysModules)=false):PySem.W.KdlSrc prog w "dict" d d es.size (fun i v=>∃ e,es[i]?=some e/\v=e.key) (fun h=>RawD h d es ep) where
 type:=fun _ m=>m.typeIs
 there:=fun _ m=>⟨m.lt,m.lt⟩
 keep:=fun _ _ m hk=>m.at fun o e=>hk d (.inl rfl) o e
 notList:=by decide
 notTuple:=by decide
 hint:=fun _ _ _ _ m q=>PySem.W.kdl_hint_dict m.typeIs q
 iter:=fun _ _ hh m=>⟨_,_,(fun _ _ q=>raw_iter lo m q),raw_walk hh _ d (Nat.ne_of_lt m.lt) es ep,⟨⟨_,Heap.get?_push_size _ rfl,rfl,rfl⟩,m.at fun _ e=>Heap.get?_push_of_some _ e⟩⟩
theorem collect_src {T:String} {r:Addr} {n:Nat} {P:Nat->Value->Prop} {OK:Heap->Prop} {Q:List Value->Shared->Prop} (K:PySem.W.KdlSrc prog w T r d n P OK) (hh:A.handled=none) (hok:OK s.heap) (hn:n<=sizeLine)
  (q:∀ h' tk acc,Keeps s.heap h'->s.heap.objs.size<=h'.objs.size->ItemsOf P acc n->Q acc.toList { s with heap:=h',toks:=tk }):wpAny (model prog w) A (collect (.ref r)) Q E s:=by
 have th:=K.there _ hok
 unfold collect
 refine wpAny_bind (wpAny_runValue (codeAny_builtin F.entry_proto_collect ?_))
 rw[Around.under_plainId F.plain_proto_collect _]
 show wpAny _ A.in1 (newList [] >>= fun l=>again (.builtin "list.__iadd__" ⟨[l,.ref r],[]⟩)) _ _ s
 refine wpAny_bind (wpAny_newObj_type (wpAny_pure ⟨plainId_quiet F.plain_list_iadd _,codeAny_builtin F.entry_list_iadd ?_⟩))
 rw[Around.under_plainId F.plain_list_iadd _]
 have ok1:OK (s.heap.push { cls:=.type "list",data:=.seq ([]:List Value).toArray }):=K.keep _ _ hok fun b _ o e=>Heap.get?_push_of_some _ e
 have hS:(s.heap.push { cls:=.type "list",data:=.seq ([]:List Value).toArray }).get? s.heap.objs.size=some { cls:=.type "list",data:=.seq #[] }:=Heap.get?_push_size _ rfl
 show wpAny _ A.in1 (Builtin.List.listExtendWith (.ref s.heap.objs.size) (.ref r) (.ref s.heap.objs.size)) _ _ _
 have fin:∀ (r:Result) (s':Shared),(∃ h' tk acc c,r=.ok (.ret (.ref s.heap.objs.size))/\s'={ s with heap:=h',toks:=tk }/\(∀ b o,b≠s.heap.objs.size->(s.heap.push { cls:=.type "list",data:=.seq ([]:List Value).toArray }).get? b=some o->h'.get? b=some o) /\
   h'.get? s.heap.objs.size=some { cls:=.type "list",dict:=none,data:=.seq acc c,slots:=#[] }/\ItemsOf P acc n)->∃ h' tk acc c,r=.ok (.ret (.ref s.heap.objs.size))/\s'={ s with heap:=h',toks:=tk }/\h'.get? s.heap.objs.size=some { cls:=.type "list",dict:=none,data:=.seq acc c,slots:=#[] }/\Q acc.toList s':=by
  rintro r s' ⟨h',tk,acc,c,rfl,rfl,hk,hS',hacc⟩
  exact⟨h',tk,acc,c,rfl,rfl,hS',q h' tk acc (fun b o e=>hk b o (Nat.ne_of_lt (Heap.lt_size e)) (Heap.get?_push_of_some _ e)) (Nat.le_of_lt (Heap.lt_size hS')) hacc⟩
 refine wpAny_mono (PySem.W.kdl_extend (s:={ s with heap:=s.heap.push { cls:=.type "list",data:=.seq ([]:List Value).toArray } })
  (R:=fun r s'=>∃ h' tk acc c,r=.ok (.ret (.ref s.heap.objs.size))/\s'={ s with heap:=h',toks:=tk }/\h'.get? s.heap.objs.size=some { cls:=.type "list",dict:=none,data:=.seq acc c,slots:=#[] }/\Q acc.toList s')
  K hh ok1 s.heap.objs.size (Nat.ne_of_gt th.1) (Nat.ne_of_gt th.2) _ _ hS (fun h' tk acc c hk hS' hacc=>fin _ _ ⟨h',tk,acc,c,rfl,rfl,hk,hS',hacc⟩) hn) (fun f s' hf=>?_) (fun e s' he=>?_)
 ·cases f with
  | done f=>
   obtain⟨h',tk,acc,c,e,rfl,hS',hq⟩:=hf
   cases e
   exact wpAny_bind (wpAny_load hS' (wpAny_pure hq))
  | again c'=>
   refine⟨hf.1,codeAny_mono hf.2 fun r s'' hr=>?_⟩
   obtain⟨h',tk,acc,c,rfl,rfl,hS',hq⟩:=hr
   exact wpAny_bind (wpAny_load hS' (wpAny_pure hq))
 ·obtain⟨h',tk,acc,c,e1,_⟩:=he
  cases e1
end
end L3
namespace L3
open PySem PySem.Spec PyProof.Rows L2 Tim
theorem perm_map_inv {α β:Type} (f:α->β):∀ {l m:List β},l.Perm m->∀ {ps:List α},m=ps.map f->∃ ps':List α,ps'.Perm ps/\l=ps'.map f:=by
 intro l m h
 induction h with
 | nil=>
  intro ps e
  cases ps with
  | nil=>exact⟨[],List.Perm.refl _,rfl⟩
  | cons a r=>cases e
 | cons x h ih=>
  intro ps e
  cases ps with
  | nil=>cases e
  | cons a r=>
   rw[List.map_cons] at e
   injection e with e1 e2
   obtain⟨ps',h1,h2⟩:=ih e2
   exact⟨a::ps',h1.cons a,by rw[List.map_cons,h2,e1]⟩
 | swap x y l=>
  intro ps e
  cases ps with
  | nil=>cases e
  | cons a r=>
   cases r with
   | nil=>cases e
   | cons b r=>
    rw[List.map_cons,List.map_cons] at e
    injection e with e1 e2
    injection e2 with e2 e3
    exact⟨b::a::r,.swap a b r,by rw[List.map_cons,List.map_cons,← e1,← e2,← e3]⟩
 | trans _ _ ih1 ih2=>
  intro ps e
  obtain⟨p2,h1,h2⟩:=ih2 e
  obtain⟨p1,h3,h4⟩:=ih1 h2
  exact⟨p1,h3.trans h1,h4⟩
abbrev TI':=Addr×List Int
abbrev lxLe (x y:List Int):Prop:=lx y x=false
section
variable {X:Cx} {pins:List (Addr×Obj)} {σ:L2.St} {H:Hp} {s:Shared}
theorem ints_rel {ns:List Int} {us:List Value} (h:Vals (ns.map V.int) us):IntsAre us ns:=intsAre_of h
theorem tup_key (I:Inv X pins σ H s) {q:TI'} (h:SqT X.K H q.1 (q.2.map V.int)):keyAt s.heap (.ref q.1)=some q.2:=by
 obtain⟨its,r,⟨o,ho,hc,n,hd⟩,_⟩:=I.tuple h
 exact keyAt_of ho hc hd (by simpa using ints_rel r)
theorem kat_of {h:Heap} {ps:List TI'} (hk:∀ q∈ps,keyAt h (.ref q.1)=some q.2/\q.2≠[]):∃ fs:List Value,PySem.W.KatTups h (ps.map fun q=>Value.ref q.1) fs/\fs.length=ps.length/\∀ v∈fs,∃ n t,v=Value.int n t:=by
 induction ps with
 | nil=>exact⟨[],.nil,rfl,fun v hv=>absurd hv (by simp)⟩
 | cons q r ih=>
  obtain⟨fs,h1,h2,h3⟩:=ih fun x hx=>hk x (List.mem_cons_of_mem _ hx)
  obtain⟨e,ne⟩:=hk q List.mem_cons_self
  obtain⟨a,o,xs,n,ea,ho,hc,hd,hi⟩:=keyAt_some e
  cases ea
  obtain⟨qa,qt⟩:=q
  dsimp only at *
  cases hx:xs.toList with
  | nil=>rw[hx] at hi; cases hi; exact absurd rfl ne
  | cons v vs=>
   rw[hx] at hi
   obtain⟨m,t,ev⟩ : ∃ m t,v=Value.int m t:=by cases hi with | cons m t _=>exact⟨m,t,rfl⟩
   refine⟨v::fs,.cons ho hc hd (by rw[<-Array.getElem?_toList,hx]; rfl) h1,by simp[h2],fun u hu=>?_⟩
   rcases List.mem_cons.mp hu with rfl | hu
   ·exact⟨m,t,ev⟩
   ·exact h3 u hu
theorem sorted_tups {A:Around} {E:Value->Shared->Prop} {v:Value} {ts:List (List Int)} {Q:VK} (I:Inv X pins σ H s)
  (hcol:∀ Q':List Value->Shared->Prop,(∀ (ps:List TI') h1 tk,Keeps s.heap h1->s.heap.objs.size<=h1.objs.size->ps.map (·.2)=ts->(∀ q∈ps,SqT X.K H q.1 (q.2.map V.int))->Q' (ps.map fun q=>Value.ref q.1) { s with heap:=h1,toks:=tk })->wpAny (model X.prog X.w) A.in1 (collect v) Q' E s)
  (hz:ts.length<=sizeLine) (hne:∀ t∈ts,t≠[])
  (q:∀ (l:Addr) (ps:List TI'),H l=none->(ps.map (·.2)).Perm ts->(ps.map (·.2)).Pairwise lxLe->(∀ q∈ps,SqT X.K H q.1 (q.2.map V.int))->Q (.ref l) (upd H l (.lst (ps.map fun q=>V.ref q.1)))) :
  wpAny (model X.prog X.w) A (call (.builtin "sorted") [v]) (EP X pins σ Q) E s:=by
 refine sorted_G (κ:=tupK s.heap) (kd:=tuples' true) (R:=fun vs=>∃ ps:List TI',vs=ps.map (fun q=>Value.ref q.1)/\ps.map (·.2)=ts/\∀ q∈ps,SqT X.K H q.1 (q.2.map V.int))
  (fun Q' hq=>hcol Q' fun ps h1 tk k z e1 e2=>hq _ h1 tk k z ⟨ps,rfl,e1,e2⟩) ?_ ?_ ?_ ?_
 ·rintro vs ⟨ps,rfl,e,_⟩
  have e':=congrArg List.length e
  rw[List.length_map] at e' ⊢
  omega
 ·rintro vs ⟨ps,rfl,_,e⟩ v hv
  obtain⟨q,hq,rfl⟩:=List.mem_map.mp hv
  exact⟨_,tup_key I (e q hq)⟩
 ·rintro vs h6 tk ⟨ps,rfl,e1,e2⟩ k h2
  refine⟨lt_tup k,fun Q' hq=>?_⟩
  obtain⟨fs,f1,f2,f3⟩:=kat_of (h:=h6) (ps:=ps) fun q hq=>by
   have e3:=tup_key I (e2 q hq)
   obtain⟨a,o,xs,n,ea,ho,hc,hd,hi⟩:=keyAt_some e3
   cases ea
   exact⟨keyAt_of (k _ _ ho) hc hd hi,hne _ (by rw[<-e1]; exact List.mem_map_of_mem hq)⟩
  refine PySem.W.kat_kind (T:=Value.type "int") f1 (by rw[f2]; rw[List.length_map] at h2; omega) (fun v hv=>?_) (by rfl) hq
  obtain⟨n,t,rfl⟩:=f3 v hv
  exact PySem.W.Looks.of_pure rfl
 ·rintro vs out l h2 tk m ⟨ps,rfl,e1,e2⟩ hp hs k hl ho
  obtain⟨ps',p1,rfl⟩:=perm_map_inv (fun q:TI'=>Value.ref q.1) hp rfl
  have m2:∀ q∈ps',SqT X.K H q.1 (q.2.map V.int):=fun q hq=>e2 q (p1.mem_iff.mp hq)
  have pw:(ps'.map (·.2)).Pairwise lxLe:=by
   refine List.pairwise_map.mpr ((List.pairwise_map.mp hs).imp_of_mem fun {x y} hx hy hxy=>?_)
   have kx:ky (tupK s.heap) (.ref x.1)=x.2:=by unfold ky; rw[show (tupK s.heap).keyOf (.ref x.1)=some x.2 from tup_key I (m2 x hx)]; rfl
   have ky':ky (tupK s.heap) (.ref y.1)=y.2:=by unfold ky; rw[show (tupK s.heap).keyOf (.ref y.1)=some y.2 from tup_key I (m2 y hy)]; rfl
   rw[kx,ky'] at hxy
   exact hxy
  have pp:(ps'.map (·.2)).Perm ts:=by rw[<-e1]; exact p1.map _
  refine⟨.ref l,_,I.laid (t':=tk) k hl (show ObjOk X.prog X.w _ h2 l (.lst (ps'.map fun q=>V.ref q.1)) from⟨?_,_,m,?_,ho⟩),rfl,q l ps' (I.hok.fresh hl) pp pw m2⟩
  ·rw[List.length_map]
   have:=pp.length_eq
   rw[List.length_map] at this
   omega
  ·clear hp hs k hl ho p1 pp pw m2
   induction ps' with
   | nil=>exact .nil
   | cons a r ih=>exact .cons rfl ih
end
section
variable {X:Cx}
def rSortL (K:PySem.W.Frag):List V->Hp->VK->Prop:=fun xs H Q=>∃ (p:Addr) (ps:List TI'),xs=[.ref p]/\SqL K H p (ps.map fun q=>V.ref q.1)/\(∀ q∈ps,SqT K H q.1 (q.2.map V.int)/\q.2≠[]) /\
 ∀ (l:Addr) (ps':List TI'),H l=none->(ps'.map (·.2)).Perm (ps.map (·.2))->(ps'.map (·.2)).Pairwise lxLe->(∀ q∈ps',SqT K H q.1 (q.2.map V.int))->Q (.ref l) (upd H l (.lst (ps'.map fun q=>V.ref q.1)))
theorem vals_refs {ps:List TI'} {us:List Value} (h:Vals (ps.map fun q=>V.ref q.1) us):us=ps.map fun q=>Value.ref q.1:=by
 induction ps generalizing us with
 | nil=>cases h; rfl
 | cons a r ih=>
  cases h with
  | cons h1 h2=>
   rw[List.map_cons,ih h2]
   have e:_=Value.ref a.1:=h1
   rw[e]
theorem call_sortedL:CallR X (.builtin "sorted") (rSortL X.K):=by
 intro pins s σ H xs us Q I r h
 obtain⟨p,ps,rfl,hq,hps,q⟩:=h
 obtain⟨u,rfl,rx⟩:=vals1 r
 cases rx
 obtain⟨its,r',pl,hz⟩:=I.list hq
 have e:=vals_refs r'
 subst e
 rw[List.length_map] at hz
 refine sorted_tups (ts:=ps.map (·.2)) I (fun Q' hq'=>?_) (by rw[List.length_map]; exact hz) (fun t ht=>?_) (fun l ps' h1 h2 h3 h4=>q l ps' h1 h2 h3 h4)
 ·refine collect_list pl.isList (hq' ps _ s.toks (fun b o e=>?_) ?_ rfl fun q hq=>(hps q hq).1) (by rw[List.length_map]; exact hz)
  ·rw[Heap.get?_update_ne _ _ _ _ (Nat.ne_of_lt (Heap.lt_size e))]
   exact Heap.get?_push_of_some _ e
  ·rw[Heap.size_update,size_push']; omega
 ·obtain⟨q,hq,rfl⟩:=List.mem_map.mp ht
  exact (hps q hq).2
def kI (t:List Int):List Key:=t.map Sum.inl
theorem kI_v (t:List Int):(kI t).map kV=t.map V.int:=by unfold kI; rw[List.map_map]; rfl
def rSortD (K:PySem.W.Frag):List V->Hp->VK->Prop:=fun xs H Q=>∃ (p:Addr) (kvs:List (List Key×V)) (ts:List (List Int)),xs=[.ref p]/\H p=some (.dT kvs)/\kvs.map (·.1)=ts.map kI/\(∀ t∈ts,t≠[]) /\
 ∀ (l:Addr) (ps':List TI'),H l=none->(ps'.map (·.2)).Perm ts->(ps'.map (·.2)).Pairwise lxLe->(∀ q∈ps',SqT K H q.1 (q.2.map V.int))->Q (.ref l) (upd H l (.lst (ps'.map fun q=>V.ref q.1)))
theorem kt_list {H:Hp} {K:PySem.W.Frag}:∀ {kvs:List (List Key×V)} {xs:List (List Key×Addr×Value)} {ts:List (List Int)},KT H kvs xs->kvs.map (·.1)=ts.map kI ->
  ∃ ps:List TI',ps.map (·.2)=ts/\(ps.map fun q=>Value.ref q.1)=(xs.map fun x=>Value.ref x.2.1)/\∀ q∈ps,SqT K H q.1 (q.2.map V.int)
 | _,_,[],.nil,_=>⟨[],rfl,rfl,fun q hq=>absurd hq (by simp)⟩
 | _,_,_::_,.nil,e=>by cases e
 | _,_,[],.cons _ _,e=>by cases e
 | _,_,t::ts,.cons (b:=x) h r,e=>by
  rw[List.map_cons,List.map_cons] at e
  injection e with e1 e2
  obtain⟨ps,p1,p2,p3⟩:=kt_list r e2
  refine⟨(x.2.1,t)::ps,by rw[List.map_cons,p1],by rw[List.map_cons,List.map_cons,p2],fun q hq=>?_⟩
  rcases List.mem_cons.mp hq with rfl | hq
  ·have e3:=h.2.1
   rw[e1,kI_v] at e3
   exact SqT.of e3
  ·exact p3 q hq
theorem call_sortedD (hh:X.A.handled=none):CallR X (.builtin "sorted") (rSortD X.K):=by
 intro pins s σ H xs us Q I r h
 obtain⟨p,kvs,ts,rfl,hp,hk,hne,q⟩:=h
 obtain⟨u,rfl,rx⟩:=vals1 r
 cases rx
 obtain⟨z,lo,xs,rel,o,es,ep,h1,h2,h3,h4,h5,h6⟩:=dt_of I.hok hp
 obtain⟨ps,p1,p2,p3⟩:=kt_list (K:=X.K) rel hk
 have hl:ts.length=kvs.length:=by have:=congrArg List.length hk; rw[List.length_map,List.length_map] at this; exact this.symm
 have hes:es.size=xs.length:=size_of_entries h4
 have hxs:kvs.length=xs.length:=Paired.length rel
 refine sorted_tups (ts:=ts) I (fun Q' hq'=>?_) (by omega) hne (fun l ps' g1 g2 g3 g4=>q l ps' g1 g2 g3 g4)
 refine collect_src (raw_src (es:=es) (ep:=ep) lo) hh ⟨o,h1,h2.1,h3⟩ (by omega) fun h' tk acc k zz it=>?_
 have e:acc.toList=ps.map fun q=>Value.ref q.1:=by
  rw[p2]
  refine List.ext_getElem? fun j=>?_
  rw[Array.getElem?_toList,List.getElem?_map]
  have hj:=entry_at h4 j
  cases hx:xs[j]? with
  | none=>
   have:xs.length<=j:=List.getElem?_eq_none_iff.mp hx
   rw[Array.getElem?_eq_none (by rw[it.1]; omega)]; rfl
  | some x=>
   rw[hx] at hj
   have hlt:j<acc.size:=by
    have:=(List.getElem?_eq_some_iff.mp hx).1
    rw[it.1]; omega
   have ea:acc[j]?=some acc[j]:=Array.getElem?_eq_getElem hlt
   obtain⟨en,e1,e2⟩:=it.2 j _ ea
   rw[hj] at e1
   cases e1
   rw[ea,e2]; rfl
 rw[e]
 exact hq' ps h' tk k zz p1 p3
end
end L3
namespace L3
open PySem PySem.Spec PyProof.Rows L2
structure Chg (fs ch:List Addr) (h h':Heap):Prop where
 keep:∀ b o,h.get? b=some o->b∉fs->b∉ch->h'.get? b=some o
 slot:∀ b o,h.get? b=some o->b∉ch->∃ sl,h'.get? b=some { o with slots:=sl }
 size:h.objs.size<=h'.objs.size
theorem Chg.trans {fs ch:List Addr} {h h1 h2:Heap} (a:Chg fs ch h h1) (b:Chg fs ch h1 h2):Chg fs ch h h2 where
 keep:=fun c o e hf hc=>b.keep c o (a.keep c o e hf hc) hf hc
 slot:=fun c o e hc=>by
  obtain⟨sl,e1⟩:=a.slot c o e hc
  obtain⟨sl2,e2⟩:=b.slot c _ e1 hc
  exact⟨sl2,e2⟩
 size:=Nat.le_trans a.size b.size
theorem Chg.wide {fs ch ch':List Addr} {h h':Heap} (a:Chg fs ch h h') (k:∀ b,b∈ch->b∈ch'):Chg fs ch' h h' where
 keep:=fun c o e hf hc=>a.keep c o e hf fun z=>hc (k c z)
 slot:=fun c o e hc=>a.slot c o e fun z=>hc (k c z)
 size:=a.size
theorem Chg.old {fs ch ch':List Addr} {h h':Heap} (a:Chg fs ch h h') (k:∀ b,b∈ch->b∈ch'\/h.objs.size<=b):Chg fs ch' h h' where
 keep:=fun c o e hf hc=>a.keep c o e hf fun z=>(k c z).elim hc fun q=>absurd (Heap.lt_size e) (Nat.not_lt.mpr q)
 slot:=fun c o e hc=>a.slot c o e fun z=>(k c z).elim hc fun q=>absurd (Heap.lt_size e) (Nat.not_lt.mpr q)
 size:=a.size
theorem Chg.upd {fs:List Addr} {h:Heap} {a:Addr} {f:Obj->Obj}:Chg fs [a] h (h.update a f) where
 keep:=fun c o e _ hc=>by rw[Heap.get?_update_ne _ _ _ _ (fun z=>hc (by simp[z]))]; exact e
 slot:=fun c o e hc=>⟨o.slots,by rw[Heap.get?_update_ne _ _ _ _ (fun z=>hc (by simp[z]))]; exact e⟩
 size:=by rw[Heap.size_update]; exact Nat.le_refl _
theorem Chg.push {fs:List Addr} {h:Heap} {o:Obj}:Chg fs [] h (h.push o) where
 keep:=fun c o e _ _=>Heap.get?_push_of_some _ e
 slot:=fun c o e _=>⟨o.slots,Heap.get?_push_of_some _ e⟩
 size:=by rw[size_push']; omega
def FlyB (pl:Bool) (h:Heap) (x T:Addr) (cls fl:Value):Prop:=
 ∃ oe vs oT ts,h.get? x=some oe/\oe.cls=cls/\oe.data=.fields vs/\vs[1]?=some (.ref T)/\T≠x/\h.get? T=some oT/\oT.data=.fields ts/\ts[3]?=some fl/\(pl=true->vs[2]?=some .none)
theorem FlyB.weak {pl pl':Bool} {h:Heap} {x T:Addr} {cls fl:Value} (F:FlyB pl h x T cls fl) (e:pl'=true->pl=true):FlyB pl' h x T cls fl:=by
 obtain⟨oe,vs,oT,ts,h1,h2,h3,h4,h5,h6,h7,h8,h9⟩:=F
 exact⟨oe,vs,oT,ts,h1,h2,h3,h4,h5,h6,h7,h8,fun z=>h9 (e z)⟩
theorem FlyB.keeps {pl:Bool} {h h':Heap} {x T:Addr} {cls fl:Value} (F:FlyB pl h x T cls fl) (k:∀ b o,(b=x\/b=T)->h.get? b=some o->h'.get? b=some o):FlyB pl h' x T cls fl:=by
 obtain⟨oe,vs,oT,ts,h1,h2,h3,h4,h5,h6,h7,h8,h9⟩:=F
 exact⟨oe,vs,oT,ts,k _ _ (.inl rfl) h1,h2,h3,h4,h5,k _ _ (.inr rfl) h6,h7,h8,h9⟩
section
variable {pl:Bool} {M:Model} {A:Around} {E:Value->Shared->Prop} {s:Shared} {base:Heap} {env:Env} {outer:List Env} {L x T:Addr} {cls:Value} {Q:Unit->Shared->Prop}
theorem not_frame (hl:s.heap.FunFrames base (env::outer)) {b:Addr} {o:Obj} {vs:Array Value} (e:s.heap.get? b=some o) (d:o.data=.fields vs):b∉(env::outer).filterMap (·.frame):=fun hm=>by
 obtain⟨_,ob,ho,hnf⟩:=hl.mem hm
 rw[e] at ho; injection ho with ho; subst ho; exact hnf vs d
theorem wp_entry {oe:Obj} {vs:Array Value} {head:Value} {hadNext:Bool} (hfr:A.frames=some (env::outer)) (hl:s.heap.FunFrames base (env::outer)) (hf:env.frame=some L)
  (he:s.heap.get? x=some oe) (hd:oe.data=.fields vs) (hsz:1<vs.size) (hp:pl=true->vs[2]?=some .none)
  (h:∀ h' T',Chg ((env::outer).filterMap (·.frame)) [x] s.heap h'->s.heap.objs.size<=T'->FlyB pl h' x T' oe.cls (rawInt L)->Q () { s with heap:=h' }) :
  wpAny M A (do let a ← frameOf env; let pl ← entryPlaceOf L hadNext; let b ← EntryCells.newEntry head a .none (rawInt L) .none pl; setField (.ref x) 1 b) Q E s:=by
 refine wpAny_bind (wpAny_frameOf_fun hfr hl hf fun h₁ hs₁=>?_)
 refine wpAny_bind (wpAny_entryPlaceOf fun pl hpl=>?_)
 unfold EntryCells.newEntry newFields
 refine wpAny_bind (wpAny_newObj_type ?_ (hpl.sizeOk5 _ _ _ _ _))
 have he₁:h₁.get? x=some oe:=(hs₁.2.1 x (not_frame hl he hd)).trans he
 have c1:Chg ((env::outer).filterMap (·.frame)) [x] s.heap h₁:=⟨fun b o e hb _=>(hs₁.2.1 b hb).trans e,fun b o e _=>hs₁.2.2 b o e,Nat.le_of_eq hs₁.1.symm⟩
 have he₂:=Heap.get?_push_of_some (h:=h₁) { cls:=.type "traceback",dict:=none,data:=.fields ([head,.ref L,.none,rawInt L,.none]++(if pl.isEmpty then List.replicate 6 Value.none else pl)).toArray } he₁
 refine wpAny_setField he₂ hd hsz ?_
 have hTx:h₁.objs.size≠x:=Nat.ne_of_gt (Heap.lt_size he₁)
 have hd₃:=Obj.data_mapFields hd (·.setIfInBounds 1 (Value.ref h₁.objs.size))
 have hT:((h₁.push { cls:=.type "traceback",dict:=none,data:=.fields ([head,.ref L,.none,rawInt L,.none]++(if pl.isEmpty then List.replicate 6 Value.none else pl)).toArray }).update x (Obj.mapFields (·.setIfInBounds 1 (Value.ref h₁.objs.size)))).get? h₁.objs.size =
   some { cls:=.type "traceback",dict:=none,data:=.fields ([head,.ref L,.none,rawInt L,.none]++(if pl.isEmpty then List.replicate 6 Value.none else pl)).toArray }:=by
  rw[Heap.get?_update_ne _ _ _ _ hTx]; exact Heap.get?_push_size h₁ rfl
 exact h _ h₁.objs.size (c1.trans ((Chg.push.wide (by simp)).trans Chg.upd)) (Nat.le_of_eq hs₁.1.symm) ⟨_,_,_,_,Heap.get?_update_self _ he₂ (Obj.isFreed_of_fields hd₃),Obj.cls_mapFields _ _,hd₃,by simp[hsz],hTx,hT,rfl,by simp,fun z=>by rw[Array.getElem?_setIfInBounds_ne (by decide)]; exact hp z⟩
theorem wp_note0 {oe:Obj} {vs:Array Value} (hfr:A.frames=some (env::outer)) (hl:s.heap.FunFrames base (env::outer)) (hf:env.frame=some L) (he:s.heap.get? x=some oe) (hd:oe.data=.fields vs) (h1:vs[1]?=some .none) (hp:pl=true->vs[2]?=some .none)
  (h:∀ h' T',Chg ((env::outer).filterMap (·.frame)) [x] s.heap h'->s.heap.objs.size<=T'->FlyB pl h' x T' oe.cls (rawInt L)->Q () { s with heap:=h' }):wpAny M A (noteFrame (.ref x) env) Q E s:=by
 unfold noteFrame
 simp only[hf]
 refine wpAny_bind (wpAny_field he hd h1 ?_)
 rw[if_neg (by decide)]
 exact wp_entry hfr hl hf he hd (Array.getElem?_eq_some_iff.mp h1).1 hp h
theorem wp_note (hfr:A.frames=some (env::outer)) (hl:s.heap.FunFrames base (env::outer)) (hf:env.frame=some L) (F:FlyB pl s.heap x T cls .none)
  (h:∀ h' T',Chg ((env::outer).filterMap (·.frame)) [x,T] s.heap h'->s.heap.objs.size<=T'->FlyB pl h' x T' cls (rawInt L)->Q () { s with heap:=h' }):wpAny M A (noteFrame (.ref x) env) Q E s:=by
 obtain⟨oe,vs,oT,ts,g1,g2,g3,g4,g5,g6,g7,g8,g9⟩:=F
 subst g2
 unfold noteFrame
 simp only[hf]
 refine wpAny_bind (wpAny_field g1 g3 g4 ?_)
 rw[if_pos (show (Value.ref T != Value.none)=true from by simp)]
 refine wpAny_bind (wpAny_field g6 g7 g8 ?_)
 rw[if_neg (by simp[rawInt])]
 refine wpAny_bind (wpAny_setField g6 g7 (Array.getElem?_eq_some_iff.mp g8).1 ?_)
 have e1:(s.heap.update T (Obj.mapFields (·.setIfInBounds 3 Value.none))).get? x=some oe:=by rw[Heap.get?_update_ne _ _ _ _ (Ne.symm g5)]; exact g1
 refine wp_entry (s:={ s with heap:=s.heap.update T (Obj.mapFields (·.setIfInBounds 3 Value.none)) }) (base:=base) hfr (hl.of_keeps fun b o hb hnf=>?_) hf e1 g3 (Array.getElem?_eq_some_iff.mp g4).1 g9 fun h' T' c z F'=>?_
 ·refine⟨o,?_,rfl⟩
  show (s.heap.update T _).get? b=some o
  rw[Heap.get?_update_ne _ _ _ _ (fun z=>by subst z; rw[g6] at hb; cases hb; exact hnf ts g7)]; exact hb
 ·refine h h' T' ((Chg.upd.wide (by simp)).trans (c.wide (by simp))) ?_ F'
  have z':(s.heap.update T (Obj.mapFields (·.setIfInBounds 3 Value.none))).objs.size<=T':=z
  rw[Heap.size_update] at z'; exact z'
theorem wp_flight {fl:Value} (F:FlyB pl s.heap x T cls fl) (h:∀ h',Chg [] [T] s.heap h'->FlyB pl h' x T cls .none->Q () { s with heap:=h' }):wpAny M A (setFlight (.ref x) none) Q E s:=by
 obtain⟨oe,vs,oT,ts,g1,g2,g3,g4,g5,g6,g7,g8,g9⟩:=F
 unfold setFlight
 refine wpAny_bind (wpAny_field g1 g3 g4 ?_)
 rw[if_pos (show (Value.ref T != Value.none)=true from by simp)]
 have lt:=(Array.getElem?_eq_some_iff.mp g8).1
 have hd:=Obj.data_mapFields g7 (·.setIfInBounds 3 ((none:Option Addr).elim Value.none fun f=>rawInt f))
 refine wpAny_setField g6 g7 lt (h _ Chg.upd ⟨oe,vs,_,_,?_,g2,g3,g4,g5,Heap.get?_update_self _ g6 (Obj.isFreed_of_fields hd),hd,?_,g9⟩)
 ·rw[Heap.get?_update_ne _ _ _ _ (Ne.symm g5)]; exact g1
 ·simp[lt]
theorem wp_leave0 {oe:Obj} {vs:Array Value} (hfr:A.frames=some (env::outer)) (hl:s.heap.FunFrames base (env::outer)) (hf:env.frame=some L) (he:s.heap.get? x=some oe) (hd:oe.data=.fields vs) (h1:vs[1]?=some .none) (hp:pl=true->vs[2]?=some .none)
  (h:∀ h' T',Chg ((env::outer).filterMap (·.frame)) [x] s.heap h'->s.heap.objs.size<=T'->FlyB pl h' x T' oe.cls .none->Q () { s with heap:=h' }):wpAny M A (leaving env (.ref x)) Q E s:=by
 unfold leaving
 refine wpAny_bind (wp_note0 hfr hl hf he hd h1 hp fun h' T' c z F=>wp_flight F fun h2 c2 F2=>?_)
 refine h h2 T' ((c.wide (ch':=[x,T']) (by simp)).trans ⟨fun b o e hb hc=>c2.keep b o e (by simp) fun q=>hc (by simp at q; simp[q]),fun b o e hc=>c2.slot b o e fun q=>hc (by simp at q; simp[q]),c2.size⟩ |>.old fun b hb=>?_) z F2
 simp at hb
 rcases hb with rfl | rfl
 ·simp
 ·exact .inr z
theorem wp_leave (hfr:A.frames=some (env::outer)) (hl:s.heap.FunFrames base (env::outer)) (hf:env.frame=some L) (F:FlyB pl s.heap x T cls .none)
  (h:∀ h' T',Chg ((env::outer).filterMap (·.frame)) [x,T] s.heap h'->s.heap.objs.size<=T'->FlyB pl h' x T' cls .none->Q () { s with heap:=h' }):wpAny M A (leaving env (.ref x)) Q E s:=by
 unfold leaving
 refine wpAny_bind (wp_note hfr hl hf F fun h' T' c z F1=>wp_flight F1 fun h2 c2 F2=>?_)
 refine h h2 T' ((c.wide (ch':=[x,T,T']) (by simp)).trans ⟨fun b o e hb hc=>c2.keep b o e (by simp) fun q=>hc (by simp at q; simp[q]),fun b o e hc=>c2.slot b o e fun q=>hc (by simp at q; simp[q]),c2.size⟩ |>.old fun b hb=>?_) z F2
 simp at hb
 rcases hb with rfl | rfl | rfl
 ·simp
 ·simp
 ·exact .inr z
end
end L3
namespace L3
open PySem PySem.Spec PyProof.Rows L2
def CXB (pl:Bool) (P:Program) (w:World):CXT:=fun outer H s E e s'=>∃ x C T H',e=.ref x/\s'.os=s.os/\AllBare s'.gens/\Un (frs outer) [] H H' s.heap s'.heap/\HOk P w H' s'.heap/\s.heap.get? x=none/\s.heap.get? T=none /\
 FlyB pl s'.heap x T (.ref C) .none/\H' x=none/\H' T=none/\E (.ref C) none H'
abbrev CXE (P:Program) (w:World):CXT:=CXB true P w
theorem ob_there {P:Program} {w:World} {H:Hp} {h:Heap} {a:Addr} {o:HO} (x:ObjOk P w H h a o):∃ ob,h.get? a=some ob:=by
 cases o with
 | lst xs=>obtain⟨_,_,_,_,e⟩:=x; exact⟨_,e⟩
 | tup xs=>obtain⟨_,_,_,ob,e,_⟩:=x; exact⟨_,e⟩
 | dK kvs=>obtain⟨_,_,_,_,o,_,_,e,_⟩:=x; exact⟨_,e⟩
 | dT kvs=>obtain⟨_,_,_,_,o,_,_,e,_⟩:=x; exact⟨_,e⟩
 | set S n=>obtain⟨o,_,_,_,e,_⟩:=x; exact⟨_,e⟩
 | ins C dx fs=>obtain⟨_,_,_,e,_⟩:=x; exact⟨_,e⟩
 | own y=>exact x
 | xd fs=>obtain⟨_,⟨_,_,_,e,_⟩,_⟩:=x; exact⟨_,e⟩
 | rng lo hi=>obtain⟨_,_,_,e⟩:=x; exact⟨_,e⟩
 | frz ob u=>obtain⟨e,_⟩:=x; exact⟨_,e⟩
 | tbl ps=>exact⟨_,show h.get? a=some _ from x⟩
 | met f y=>exact⟨_,show h.get? a=some _ from x⟩
 | ext φ=>exact x.2.1
theorem HOk.chg {P:Program} {w:World} {H:Hp} {h h':Heap} {fs ch:List Addr} (ok:HOk P w H h) (c:Chg fs ch h h') (hf:∀ b∈fs,H b=none) (hc:∀ b∈ch,H b=none):HOk P w H h':=fun b u e=>by
 refine (ok b u e).stay (fun d v hd q=>c.keep d v q (fun z=>?_) fun z=>?_) (fun _ q=>q) fun _ _ q=>q
 ·have n:=hf d z
  rcases hd with rfl | hd
  ·rw[e] at n; cases n
  ·rw[hd] at n; cases n
 ·have n:=hc d z
  rcases hd with rfl | hd
  ·rw[e] at n; cases n
  ·rw[hd] at n; cases n
theorem Un.chg {H H':Hp} {h0 h1 h2:Heap} {fs ch:List Addr} {L:Addr} (u:Un fs [] H H' h0 h1) (c:Chg (L::fs) ch h1 h2) (hL:h0.get? L=none) (hc:∀ b∈ch,h0.get? b=none):Un fs [] H H' h0 h2:=by
 have nc:∀ b o,h0.get? b=some o->b∉ch:=fun b o e z=>by rw[hc b z] at e; cases e
 have nL:∀ b o,h0.get? b=some o->b≠L:=fun b o e z=>by rw[z,hL] at e; cases e
 refine⟨fun b o e n hb hx=>c.keep b o (u.keep b o e n hb hx) (fun z=>(List.mem_cons.mp z).elim (nL b o e) hb) (nc b o e),fun b o e n hb hx=>?_,u.free,fun b o e hx=>?_,u.tups,u.frzs,u.tbls⟩
 ·obtain⟨sl,e1⟩:=u.slot b o e n hb hx
  obtain⟨sl2,e2⟩:=c.slot b _ e1 (nc b o e)
  exact⟨sl2,e2⟩
 ·obtain⟨o',e1⟩:=u.there b o e hx
  obtain⟨sl,e2⟩:=c.slot b _ e1 (nc b o e)
  exact⟨_,e2⟩
section
variable {pl:Bool} {X:Cx} {pins:List (Addr×Obj)} {σ:L2.St} {H:Hp} {s s':Shared} {E:XK} {e:Value}
theorem Inv.raised (I:Inv X pins σ H s) (h:CXB pl X.prog X.w X.stack H s E e s') :
  ∃ x C T H',e=.ref x/\Inv X pins σ H' s'/\FlyB pl s'.heap x T (.ref C) .none/\H' x=none/\H' T=none/\s.heap.get? x=none/\s.heap.get? T=none/\E (.ref C) none H':=by
 obtain⟨x,C,T,H',rfl,os,bare,un,hok,n1,n2,F,g1,g2,q⟩:=h
 exact⟨x,C,T,H',rfl,I.call' os un hok bare (fun b z=>absurd z (by simp)),F,g1,g2,n1,n2,q⟩
end
section
variable {pl:Bool} {P:Program} {w:World} {K:PySem.W.Frag} {mg:Str->Option Value} {base:Heap} {N:List Str} {qual:Str} {scope:Scope} {f:Addr} {cd:Value} {A:Around} {outer:List Env} {s₀:Shared} {H₀:Hp} {E₀:XK}
abbrev cxB (pl:Bool) (P:Program) (w:World) (K:PySem.W.Frag) (mg:Str->Option Value) (base:Heap) (N:List Str) (qual:Str) (scope:Scope) (f:Addr) (cd:Value) (A:Around) (outer:List Env) (s₀:Shared) (H₀:Hp) (E₀:XK):Cx:=
 cxOf (CXB pl P w) P w K mg base N qual scope f cd A outer s₀ H₀ E₀
abbrev cxE (P:Program) (w:World) (K:PySem.W.Frag) (mg:Str->Option Value) (base:Heap) (N:List Str) (qual:Str) (scope:Scope) (f:Addr) (cd:Value) (A:Around) (outer:List Env) (s₀:Shared) (H₀:Hp) (E₀:XK):Cx:=cxB true P w K mg base N qual scope f cd A outer s₀ H₀ E₀
theorem xe_fly {pins:List (Addr×Obj)} {σ:L2.St} {H:Hp} {s:Shared} {x C T:Addr} (I:Inv (cxB pl P w K mg base N qual scope f cd A outer s₀ H₀ E₀) pins σ H s) (F:FlyB pl s.heap x T (.ref C) .none) (hx:H x=none) (hT:H T=none)
  (nx:s₀.heap.get? x=none) (nT:s₀.heap.get? T=none) (q:E₀ (.ref C) none H):(cxB pl P w K mg base N qual scope f cd A outer s₀ H₀ E₀).xe (.ref x) s:=by
 have fr:=I.ok.frames
 have st:=I.stack
 have sf:=I.stkFree
 refine wp_leave (base:=base) (L:=s₀.heap.objs.size) fr st rfl F fun h' T' c z F'=>?_
 have nL:s₀.heap.get? s₀.heap.objs.size=none:=by
  cases e:s₀.heap.get? s₀.heap.objs.size with
  | none=>rfl
  | some o=>exact absurd (Heap.lt_size e) (Nat.lt_irrefl _)
 have nT':s₀.heap.get? T'=none:=by
  cases e:s₀.heap.get? T' with
  | none=>rfl
  | some o=>exact absurd (Heap.lt_size e) (Nat.not_lt.mpr (Nat.le_trans I.sz z))
 refine⟨x,C,T',H,rfl,I.os,I.bare,Un.chg (L:=s₀.heap.objs.size) I.base c nL (fun b hb=>?_),HOk.chg I.hok c (fun b hb=>sf b hb) (fun b hb=>?_),nx,nT',F',hx,I.hok.fresh z,q⟩
 ·simp at hb; rcases hb with rfl | rfl
  ·exact nx
  ·exact nT
 ·simp at hb; rcases hb with rfl | rfl
  ·exact hx
  ·exact hT
theorem xe_new {pins:List (Addr×Obj)} {σ:L2.St} {H:Hp} {s:Shared} {h1:Heap} {x C:Addr} {vs:List Value} (I:Inv (cxB pl P w K mg base N qual scope f cd A outer s₀ H₀ E₀) pins σ H s) (hx:Heap.MadeExcOf s.heap h1 x (.ref C) vs)
  (q:E₀ (.ref C) none H):(cxB pl P w K mg base N qual scope f cd A outer s₀ H₀ E₀).xe (.ref x) { s with heap:=h1 }:=by
 have I1:Inv (cxB pl P w K mg base N qual scope f cd A outer s₀ H₀ E₀) pins σ H { s with heap:=h1 }:=I.kept (t':=s.toks) hx.keeps
 obtain⟨t,h2,h3,h4⟩:=hx.there
 have nx:s₀.heap.get? x=none:=by
  cases e:s₀.heap.get? x with
  | none=>rfl
  | some o=>
   obtain⟨o',e'⟩:=I.base.there x o e (by show x∉([]:List Addr); simp)
   rw[hx.new] at e'; cases e'
 have hHx:H x=none:=by
  cases e:H x with
  | none=>rfl
  | some u=>
   have hn:=hx.new
   have:∃ ob,s.heap.get? x=some ob:=by
    have k:=I.hok x u e
    exact ob_there k
   obtain⟨ob,eo⟩:=this
   rw[hn] at eo; cases eo
 refine wp_leave0 (pl:=pl) (base:=base) (L:=s₀.heap.objs.size) I1.ok.frames I1.stack rfl h2 rfl rfl (fun _=>rfl) fun h' T' c z F'=>?_
 have nL:s₀.heap.get? s₀.heap.objs.size=none:=by
  cases e:s₀.heap.get? s₀.heap.objs.size with
  | none=>rfl
  | some o=>exact absurd (Heap.lt_size e) (Nat.lt_irrefl _)
 have nT':s₀.heap.get? T'=none:=by
  cases e:s₀.heap.get? T' with
  | none=>rfl
  | some o=>exact absurd (Heap.lt_size e) (Nat.not_lt.mpr (Nat.le_trans I1.sz z))
 refine⟨x,C,T',H,rfl,I1.os,I1.bare,Un.chg (L:=s₀.heap.objs.size) I1.base c nL (fun b hb=>?_),HOk.chg I1.hok c (fun b hb=>I1.stkFree b hb) (fun b hb=>?_),nx,nT',F',hHx,I1.hok.fresh z,q⟩
 ·simp at hb; rw[hb]; exact nx
 ·simp at hb; rw[hb]; exact hHx
theorem pass_on {pl':Bool} {E:XK} (hE:∀ c d H,E c d H->E₀ c d H) (hpl:pl=true->pl'=true:=by exact id):Passes (CXB pl' P w) (cxB pl P w K mg base N qual scope f cd A outer s₀ H₀ E₀) E:=by
 intro pins σ H s e s' I h
 obtain⟨x,C,T,H',rfl,I',F,g1,g2,n1,n2,q⟩:=Inv.raised I h
 have old:∀ b,s.heap.get? b=none->s₀.heap.get? b=none:=fun b hb=>by
  cases e:s₀.heap.get? b with
  | none=>rfl
  | some o=>
   obtain⟨o',e'⟩:=I.base.there b o e (by show b∉([]:List Addr); simp)
   rw[hb] at e'; cases e'
 exact xe_fly I' (F.weak hpl) g1 g2 (old x n1) (old T n2) (hE _ _ _ q)
end
end L3
namespace L3
open PySem PySem.Spec PyProof.Rows L2
def PJ (X:Cx) (es:List Expr) (n:Nat) (t:L2.St->Hp->Prop):Prop:=
 ∀ (pins:List (Addr×Obj)) (s:Shared) (σ:L2.St) (H:Hp) (out:Str) (Q:Value->Shared->Prop),Inv X pins σ H s->t σ H->out.length+n<=sizeLine->(∀ y tk s',Inv X pins σ H s'->Q (.str y tk) s') ->
  wpAny (model X.prog X.w) X.A (joinParts out (evalEach es X.env)) Q X.xe s
section
variable {X:Cx} {es:List Expr} {n:Nat} {t:L2.St->Hp->Prop}
theorem pj_nil:PJ X [] 0 (fun _ _=>True):=fun pins s σ H out Q I _ hz q=>joinParts_nil (q _ _ _ (I.tok _)) (by simpa using hz)
theorem pj_text {x:Str} {j pos} (h:PJ X es n t):PJ X (.Constant (.str x) j pos::es) (x.length+n) t:=fun pins s σ H out Q I ht hz q=>by
 have hl:(out++x).length=out.length+x.length:=strLen_append _ _
 exact joinParts_cons (Calls.Constant_str ⟨by omega,h pins _ σ H _ Q (I.tok _) ht (by omega) q⟩)
theorem pj_int {e:Expr} {te:TE} {pos:Pos} (he:PE X e te) (h:PJ X es n t):PJ X (.FormattedValue e (-1) none pos::es) (1921+n) (fun σ H=>te σ H fun v H1=>H1=H/\(∃ i:Int,v=.int i/\i.natAbs.log2<1920)/\t σ H):=fun pins s σ H out Q I ht hz q=>by
 refine joinParts_cons (FormattedValue_plain (thn (he pins s σ H _ I ht) fun u s1 ⟨v,H1,I1,r1,e1,⟨i,e2,hi⟩,q1⟩=>?_))
 subst e1 e2
 obtain⟨tk,rfl⟩:=r1
 have hl:=int_text_length_le (k:=1920) (by decide) hi
 have fin:∀ s2,Inv X pins σ H1 s2->(out++Str.ofString (toString i)).length<=sizeLine/\wpAny (model X.prog X.w) X.A (joinParts (out++Str.ofString (toString i)) (evalEach es X.env)) Q X.xe s2:=fun s2 I2=>by
  have e3:(out++Str.ofString (toString i)).length=out.length+(Str.ofString (toString i)).length:=strLen_append _ _
  have e4:(Str.ofString (toString i)).length=(toString i).length:=PySem.ofString_length _
  exact⟨by omega,h pins s2 σ H1 _ Q I2 q1 (by omega) q⟩
 first
  | exact wpAny_formatField_int hi (fin _ (I1.tok _))
  | exact wpAny_formatField_int hi (fin _ (I1.tok _)) (fin _ (I1.tok _))
theorem pe_join {v₁ v₂:Expr} {rest:List Expr} {pos:Pos} (h:PJ X (v₁::v₂::rest) n t) (hn:n<=sizeLine:=by decide):PE X (.JoinedStr (v₁::v₂::rest) pos) (fun σ H Q=>t σ H/\∀ y,Q (.str y) H):=fun pins s σ H Q I ⟨ht,q⟩=>by
 refine JoinedStr_many (h pins s σ H Str.empty _ I ht (by rw[show Str.empty.length=0 from rfl]; omega) fun y tk s' I'=>?_)
 exact⟨.str y,H,I',⟨tk,rfl⟩,q y⟩
end
abbrev bmV:List Value:=[.type "ValueError",.type "Exception",.type "BaseException",.type "object"]
structure XCls (K:PySem.W.Frag) (C:Addr):Prop where
 ok:PySem.W.excIn K C bmV "ValueError.__new__" = true
theorem XCls.obj {K:PySem.W.Frag} {C:Addr} (c:XCls K C) {h:Heap} (X:K.In h) :
  ∃ bm N nm q bs hdct sn sub ab col dd k0 k1 k2 k3 k5 mN,h.get? C=some (excClassObj nm q C N bs bm hdct sn sub ab col dd k0 k1 k2 k3 k5 "ValueError.__new__")/\h.Ns N mN/\mN "__init__" = none/\OwnTail h bmV bm:=by
 have q:=c.ok
 unfold PySem.W.excIn at q
 split at q
 ·rename_i dd cd sl ho
  split at q
  ·rename_i C' bm k0 k1 k2 k3 n k5 hm hs
   simp only[Bool.and_eq_true,beq_iff_eq,Bool.not_eq_true'] at q
   obtain⟨⟨⟨⟨⟨e1,e2⟩,e3⟩,e4⟩,e5⟩,e6⟩:=q
   subst e1 e2
   cases cd
   dsimp only at hm e3 e5 e6
   subst hm e3
   have hsl:sl = #[k0,k1,k2,k3,some (.builtin "ValueError.__new__"),k5]:=by
    cases sl
    simp only at hs
    rw[hs]
   subst hsl
   exact⟨bm,_,_,_,_,_,_,_,_,_,dd,k0,k1,k2,k3,k5,_,X _ _ ho,.of_isNs (PySem.W.isNs_of_in X e5),PySem.W.nsMap_none_of_in X e5 e6,PySem.W.tail_of_in X e4⟩
  ·cases q
 ·cases q
def sRaise (C:Addr) (t:TA) (E:XK):TS:=fun D σ H=>t σ H fun vs H1=>vs.length<=sizeLine/\E (.ref C) none H1
section
variable {X:Cx} {x:Str} {C:Addr} {e:Expr} {t:TA} {np cpos pos:Pos} {E₀:XK}
theorem ps_raise (hc:X.calm=true) (hg:Gl X x) (hm:X.mg x=some (.ref C)) (c:XCls X.K C) (ha:PA X [e] t)
  (hxe:∀ pins σ H s h1 y vs,Inv X pins σ H s->Heap.MadeExcOf s.heap h1 y (.ref C) vs->E₀ (.ref C) none H->X.xe (.ref y) { s with heap:=h1 })
  (hs:starEach [e] X.env=[(false,eval e X.env)]:=by rfl) (hd:(x == ("__debug__" : Str))=false:=by decide):PS X (.Raise (some (.Call (.Name x np) [e] [] cpos)) none pos) (sRaise C t E₀):=by
 intro pins s σ H D I h
 obtain⟨bm,N,nm,q,bs,hdct,sn,sub,ab,col,dd,k0,k1,k2,k3,k5,mN,hC,hN,hni,T⟩:=c.obj I.mod.kin
 have hh:X.A.handled=none:=I.ok.hd hc
 refine wpAny_Raise_call_subT (C:=C) (nm:=nm) (q:=q) (N:=N) (bs:=bs) (bm:=bm) (hdct:=hdct) (sn:=sn) (sub:=sub) (ab:=ab) (col:=col) (dd:=dd) (k0:=k0) (k1:=k1) (k2:=k2) (k3:=k3) (k5:=k5) PySem.F.excBase_ValueError (mN:=mN) (T.hasType rfl) hh (by rw[hs]; rfl) hni (ld_glob I hg hm ⟨rfl,?_⟩ hd)
 have h2:=ha cpos pins s σ H _ I h
 rw[hs] at h2 ⊢
 refine Calls.evalArgs_plain (thn h2 fun us s2 ⟨vs,H2,I2,r2,hl,q2⟩=>?_)
 exact⟨rfl,by rw[<-r2.length]; exact hl,I2.bk _ _ hC,hN.keeps I2.bk,T.keeps I2.bk,fun h1 y hy=>hxe pins σ H2 s2 h1 y us I2 hy q2⟩
end
end L3
namespace L3
open PySem PySem.Spec PyProof.Rows L2
structure Under (K:PySem.W.Frag) (C D:Addr):Prop where
 sub:PySem.W.mroIn K C (.ref D)=some true
section
variable {M:Model} {A:Around} {E:Value->Shared->Prop} {s:Shared}
theorem exc_matches {K:PySem.W.Frag} {x C D:Addr} {oe:Obj} {Q:Bool->Shared->Prop} (X:K.In s.heap) (he:s.heap.get? x=some oe) (hcls:oe.cls=.ref C) (cD:XCls K D) (u:Under K C D) (q:Q true s):wpAny M A (excMatches (.ref x) (.ref D)) Q E s:=by
 obtain⟨bm,N,nm,q',bs,hdct,sn,sub,ab,col,dd,k0,k1,k2,k3,k5,mN,hC,hN,hni,T⟩:=cD.obj X
 have hb:bm.contains (.type "BaseException")=true:=T.hasType rfl
 have hcB:(Value.ref D::bm).contains (.type "BaseException")=true:=by rw[List.contains_cons,hb,Bool.or_true]
 have f:=tc_notTuple
 have mm:∀ (E':Value->Shared->Prop) (Q':Bool->Shared->Prop),Q' true s->wpAny M A (isSubtype (.ref C) (.ref D)) Q' E' s:=fun E' Q' hq=>(PySem.W.looks_mroIn (M:=M) X u.sub).here hq
 obtain⟨hh,g,d,tk,os⟩:=s
 unfold excMatches
 repeat (first | (with_reducible refine wpAny_loadPart_at he ?_; rw[hcls]) | with_reducible refine wpAny_loadPart_at hC ?_ | (with_reducible refine wpAny_isSubtype_exc hC ?_; rw[hcB]) | (with_reducible refine mm _ _ ?_) | wp_step)
 exact q
end
section
variable {X:Cx} {pins:List (Addr×Obj)} {σ:L2.St} {H:Hp} {s:Shared}
theorem unbind_ok {M:Model} {A:Around} {E:Value->Shared->Prop} {i:Nat} {x:Str} {v:V} {Q:Unit->Shared->Prop} (I:Inv X pins σ H s) (hN:X.N.Nodup) (hi:X.N[i]?=some x) (hx:X.env.scope.names.lookup x=some .local) (hv:σ[i]?=some (some v))
  (h:∀ s',Inv X pins (σ.set i none) H s'->Q () s'):wpAny M A (unbindName X.env x) Q E s:=by
 obtain⟨m,hn,hl⟩:=id I.loc
 have hcls:(X.env.scope.kind == .class||(X.env.scope.kind == .module&&X.env.locals != X.env.globals))=false:=by rw[I.ok.kind]; rfl
 have hiσ:i<σ.length:=by rw[I.len]; exact (List.getElem?_eq_some_iff.mp hi).1
 obtain⟨u,r,l⟩:=hl i x v hi hv (.inl hx)
 have hm:m x=some u:=by
  rcases l with ⟨_,e⟩ | ⟨k,_⟩
  ·exact e
  ·rcases k with k | k
   ·have k':X.env.scope.names.lookup x=some .cell:=k
    rw[hx] at k'; cases k'
   ·have k':X.env.scope.names.lookup x=some .free:=k
    rw[hx] at k'; cases k'
 refine wpAny_unbindName_local hx hn hm hcls fun h' w' hn' hs=>?_
 have cne:=I.cne
 have keepO:∀ b,b<X.s₀.heap.objs.size->b≠X.env.locals:=fun b hb=>Nat.ne_of_lt (Nat.lt_of_lt_of_le hb I.ok.above)
 refine h _ ⟨I.ok,I.os,I.bare,⟨fun b o e n hb hx=>(hs.2 b (keepO b (Heap.lt_size e))).trans (I.base.keep b o e n hb hx),fun b o e n hb hx=>?_,I.base.free,fun b o e hx=>?_,I.base.tups,I.base.frzs,I.base.tbls⟩,⟨_,hn',fun j y v' e1 e2 e3=>?_⟩,fun y c e=>?_,I.free,I.freeC,fun p hp=>?_,?_,by rw[List.length_set]; exact I.len⟩
 ·obtain⟨sl,e1⟩:=I.base.slot b o e n hb hx
  exact⟨sl,(hs.2 b (keepO b (Heap.lt_size e))).trans e1⟩
 ·obtain⟨o',e1⟩:=I.base.there b o e hx
  exact⟨o',(hs.2 b (keepO b (Heap.lt_size e))).trans e1⟩
 ·by_cases hj:j=i
  ·subst hj
   rw[List.getElem?_set_self hiσ] at e2
   cases e2
  ·rw[List.getElem?_set_ne (Ne.symm hj)] at e2
   obtain⟨u',r',q⟩:=hl j y v' e1 e2 e3
   refine⟨u',r',?_⟩
   rcases q with ⟨k,e⟩ | ⟨k,c,e,z⟩
   ·refine .inl ⟨k,?_⟩
    have:y≠x:=fun e=>hj (nodup_ix hN e1 (e ▸ hi))
    simp[this,e]
   ·exact .inr ⟨k,c,e,z.sameBut hs (cne y c e)⟩
 ·obtain⟨w2,z⟩:=I.cell y c e
  exact⟨w2,z.sameBut hs (cne y c e)⟩
 ·obtain⟨e,n,ne,nf,d⟩:=I.pin p hp
  exact⟨(hs.2 p.1 ne).trans e,n,ne,nf,d⟩
 ·intro b ob e
  refine (I.hok b ob e).stay (fun c w3 hc q=>(hs.2 c ?_).trans q) (fun _ q=>q) fun _ _ q=>q
  rintro rfl
  have fr:=I.free
  rcases hc with hc | hc
  ·rw[<-hc,fr] at e; cases e
  ·rw[hc] at fr; cases fr
theorem Inv.take {x:Addr} {o:HO} (I:Inv X pins σ H s) (hn:H x=none) (n0:X.s₀.heap.get? x=none) (nL:x≠X.env.locals) (nC:∀ y c,X.env.cells.lookup y=some c->c≠x) (nP:∀ p∈X.pn++pins,p.1≠x)
  (new:ObjOk X.prog X.w (upd H x o) s.heap x o):Inv X pins σ (upd H x o) s:=by
 have nx:∀ b u,H b=some u->b≠x:=fun b u e z=>by rw[z,hn] at e; cases e
 refine⟨I.ok,I.os,I.bare,⟨I.base.keep,I.base.slot,fun b ob e n hx=>?_,I.base.there,fun b xs e=>?_,fun b ob u e=>?_,fun b ps e=>?_⟩,I.loc,I.cell,by rw[upd_ne (Ne.symm nL)]; exact I.free,fun y c e=>by rw[upd_ne (nC y c e)]; exact I.freeC y c e,fun p hp=>?_,fun b u e=>?_,I.len⟩
 ·rw[upd_ne (fun z=>by rw[z,n0] at e; cases e)]; exact I.base.free b ob e n hx
 ·have:=I.base.tups b xs e; rw[upd_ne (nx _ _ this)]; exact this
 ·have:=I.base.frzs b ob u e; rw[upd_ne (nx _ _ this)]; exact this
 ·obtain⟨more,q⟩:=I.base.tbls b ps e
  exact⟨more,by rw[upd_ne (nx _ _ q)]; exact q⟩
 ·obtain⟨e,n,ne,nf,d⟩:=I.pin p hp
  exact⟨e,by rw[upd_ne (nP p hp)]; exact n,ne,nf,d⟩
 ·by_cases hb:b=x
  ·subst hb; rw[upd_same] at e; cases e; exact new
  ·rw[upd_ne hb] at e
   exact (I.hok b u e).stay (fun c v _ q=>q) (fun c q=>by rw[upd_ne (nx _ _ q)]; exact q) fun c xs q=>by rw[upd_ne (nx _ _ q)]; exact q
end
end L3
namespace L3
open PySem PySem.Spec PyProof.Rows L2
structure XAttr (K:PySem.W.Frag) (C:Addr):Prop where
 cls:PySem.W.findIn K (.ref C) "__class__" = some (some (.builtin "object.__class__"))
 ga:PySem.W.findIn K (.ref C) "__getattribute__" = some (some (.builtin "BaseException.__getattribute__"))
 nga:PySem.W.findIn K (.ref C) "__getattr__" = some none
section
variable {prog:Program} {w:World} {A:Around} {E:Value->Shared->Prop} {h:Heap} {g:Array GenState} {d:Drawn} {t:Nat} {os:OsState} {a C:Addr} {o:Obj} {K:PySem.W.Frag}
theorem xc_get {R:Result->Shared->Prop} (X:K.In h) (c:XCls K C) (hx:h.get? a=some o) (hc:o.cls=.ref C) (hq:R (.ok (.ret (.ref C))) ⟨h,g,d,t,os⟩) :
  codeAny (model prog w) A (.call (.builtin "getset_descriptor.__get__") ⟨[.builtin "object.__class__",.ref a,.ref C],[]⟩) R ⟨h,g,d,t,os⟩:=by
 obtain⟨bm,N,nm,q',bs,hdct,sn,sub,ab,col,dd,k0,k1,k2,k3,k5,mN,hC,hN,hni,T⟩:=c.obj X
 have hT5:(⟨h,g,d,t,os⟩ : Shared).TypeIs (.builtin "object.__class__") "getset_descriptor" := F.typeOf_object_class
 have hob:bm.contains (.type "object")=true:=T.hasType rfl
 have hcB:(Value.ref C::bm).contains (.type (".".intercalate ("object.__class__".cutAt '.').dropLast))=true:=by
  rw[F.owner_object_class,List.contains_cons,hob]; rfl
 refine codeAny_call_builtin F.slot_gs_get.plain F.entry_gs_get (F.slot_gs_get.check _ _ _ _ _ _ _ _ hT5 (F.args_gs_get _ _ _) ?_)
 repeat (any_goals (first | assumption | (with_reducible refine wpAny_loadPart_at hx ?_; rw[hc]) | (with_reducible refine wpAny_isSubtype_exc hC ?_; rw[hcB]) | wp_step))
 refine⟨Code.quiet_builtin _ (by decide +kernel),codeAny_builtin F.entry_object_class ?_⟩
 repeat (any_goals (first | assumption | (with_reducible refine wpAny_loadPart_at hx ?_; rw[hc]) | wp_step))
theorem xc_entry {tk:Tok} {Q:Fin->Shared->Prop} (X:K.In h) (c:XCls K C) (xa:XAttr K C) (hx:h.get? a=some o) (hc:o.cls=.ref C) (hq:Q (.done (.ret (.ref C))) ⟨h,g,d,t,os⟩) :
  wpAny (model prog w) A (Builtin.«object.__getattribute__» ⟨[.ref a,.str "__class__" tk],[]⟩) Q E ⟨h,g,d,t,os⟩:=by
 have hT5:(⟨h,g,d,t,os⟩ : Shared).TypeIs (.builtin "object.__class__") "getset_descriptor" := F.typeOf_object_class
 have f5:=F.typeOf_object_class
 have f6:=F.slot_gs_get.lookup
 have f7:=F.slot_gs_set.lookup
 have lk:∀ (E':Value->Shared->Prop) (Q':Option Value->Shared->Prop),Q' (some (.builtin "object.__class__")) ⟨h,g,d,t,os⟩->wpAny (model prog w) A (typeLookup (.ref C) "__class__") Q' E' ⟨h,g,d,t,os⟩:=fun E' Q' q=>(PySem.W.looks_findIn (M:=model prog w) X xa.cls) _ _ _ _ (fun _ _ e=>e) q
 repeat (any_goals (first | assumption | (with_reducible refine wpAny_loadPart_at hx ?_; rw[hc]) | (with_reducible refine lk _ _ ?_) | wp_step))
 refine xc_get X c hx hc ?_
 repeat (any_goals (first | assumption | wp_step))
theorem xc_check {M:Model} {nameV:Value} {Q:Unit->Shared->Prop} (X:K.In h) (c:XCls K C) (hx:h.get? a=some o) (hc:o.cls=.ref C) (hq:Q () ⟨h,g,d,t,os⟩):wpAny M A (checkBuiltinCall "BaseException.__getattribute__" ⟨[.ref a,nameV],[]⟩) Q E ⟨h,g,d,t,os⟩:=by
 obtain⟨bm,N,nm,q',bs,hdct,sn,sub,ab,col,dd,k0,k1,k2,k3,k5,mN,hC,hN,hni,T⟩:=c.obj X
 have hk:builtinKind "BaseException.__getattribute__" = some .slot:=by decide +kernel
 have hsplit:splitId "BaseException.__getattribute__" = some ("BaseException", "__getattribute__"):=by decide +kernel
 have hb:bm.contains (.type "BaseException")=true:=T.hasType rfl
 have hcB:(Value.ref C::bm).contains (.type "BaseException")=true:=by rw[List.contains_cons,hb]; rfl
 have ha:=F.args_bexc_ga (.ref a) nameV
 simp only[checkBuiltinCall,hk,hsplit]
 refine wpAny_bind ?_
 unfold isInstance
 repeat (first | (with_reducible refine wpAny_loadPart_at hx ?_; rw[hc]) | (with_reducible refine wpAny_isSubtype_exc hC ?_; rw[hcB]) | wp_step)
 exact hq
theorem xc_attr {Q:Option Value->Shared->Prop} (FA:ExcAttrBase "ValueError" bmV) (X:K.In h) (c:XCls K C) (xa:XAttr K C) (hx:h.get? a=some o) (hc:o.cls=.ref C) (hq:Q (some (.ref C)) ⟨h,g,d,t+1,os⟩) :
  wpAny (model prog w) A (getAttr? (.ref a) "__class__") Q E ⟨h,g,d,t,os⟩:=by
 have f3:=FA.ga.bind (.ref a)
 have lk:∀ (tt:Nat) (A':Around) (E':Value->Shared->Prop) (Q':Option Value->Shared->Prop),Q' (some (.builtin "BaseException.__getattribute__")) ⟨h,g,d,tt,os⟩->wpAny (model prog w) A' (typeLookup (.ref C) "__getattribute__") Q' E' ⟨h,g,d,tt,os⟩:=fun tt A' E' Q' q=>(PySem.W.looks_findIn (M:=model prog w) X xa.ga) _ _ _ _ (fun _ _ e=>e) q
 have lk2:∀ (tt:Nat) (A':Around) (E':Value->Shared->Prop) (Q':Option Value->Shared->Prop),Q' none ⟨h,g,d,tt,os⟩->wpAny (model prog w) A' (typeLookup (.ref C) "__getattr__") Q' E' ⟨h,g,d,tt,os⟩:=fun tt A' E' Q' q=>(PySem.W.looks_findIn (M:=model prog w) X xa.nga) _ _ _ _ (fun _ _ e=>e) q
 have hx2:(Value.builtin "BaseException.__getattribute__" == Value.builtin "object.__getattribute__")=false:=by decide +kernel
 have call:∀ (tt:Nat) (tk:Tok) (A':Around) (R:Result->Shared->Prop),R (.ok (.ret (.ref C))) ⟨h,g,d,tt,os⟩->codeAny (model prog w) A' (.call (.builtin "BaseException.__getattribute__") ⟨[.ref a,.str "__class__" tk],[]⟩) R ⟨h,g,d,tt,os⟩:=fun tt tk A' R q=>
  codeAny_call_builtin FA.ga.plain F.entry_bexc_ga (xc_check X c hx hc (xc_entry X c xa hx hc q))
 unfold getAttr? getAttrBy?
 repeat (any_goals (first | assumption | (with_reducible refine wpAny_loadPart_at hx ?_; rw[hc]) | (with_reducible refine lk _ _ _ _ ?_) | (with_reducible refine lk2 _ _ _ _ ?_) | wp_step))
 refine call _ _ _ _ ?_
 show wpAny _ _ (handedOut (.ref C)) _ _ _
 repeat (any_goals (first | assumption | wp_step))
theorem kitx_exc {x:Addr} (FA:ExcAttrBase "ValueError" bmV) (c:XCls K C) (xa:XAttr K C):PySem.W.KitX K (.ref x) (.ref C) (fun h=>∃ o,h.get? x=some o/\o.cls=.ref C) where
 ty:=fun M h _ ⟨o,h1,h2⟩=>h2 ▸ (PySem.W.Looks.ld h1).andThen .now
 it:=fun _ h X _=>by
  obtain⟨bm,N,nm,q',bs,hdct,sn,sub,ab,col,dd,k0,k1,k2,k3,k5,mN,hC,hN,hni,T⟩:=c.obj X
  intro A' Q' E' s' k q
  unfold isType loadHead
  exact wpAny_bind (wpAny_loadPart (k _ _ hC) (wpAny_pure q))
 ne:=fun h tp dd its n sl X htp=>by
  obtain⟨bm,N,nm,q',bs,hdct,sn,sub,ab,col,dd,k0,k1,k2,k3,k5,mN,hC,hN,hni,T⟩:=c.obj X
  refine Bool.eq_false_iff.mpr fun q=>?_
  have e:C=tp:=Value.ref.inj (beq_iff_eq.mp q)
  subst e
  have z:=congrArg Obj.cls (Option.some.inj (hC.symm.trans htp))
  injection z with z
  exact absurd z (by decide)
 ca:=fun {prog w A E Q s} X ⟨o,h1,h2⟩ k=>by
  obtain⟨h,g,d,tk,os⟩:=s
  exact xc_attr FA X c xa h1 h2 k
end
end L3
namespace L3
open PySem PySem.Spec PyProof.Rows L2
def exH (x C:Addr):HO:=.ext fun h=>∃ o,h.get? x=some o/\o.cls=.ref C
theorem exH_ok {P:Program} {w:World} {H:Hp} {h:Heap} {x C:Addr} {o:Obj} (h1:h.get? x=some o) (h2:o.cls=.ref C):ObjOk P w H h x (exH x C):=
 ⟨⟨o,h1,h2⟩,⟨o,h1⟩,fun _ _ ⟨o',e1,e2⟩ k=>⟨o',k _ e1,e2⟩⟩
theorem call_isinstX {X:Cx} {v:V} {c:Value} (rc:RelV v c) (hc:∀ u,RelV v u->u=c):CallR X (.builtin "isinstance") (fun xs H Q=>∃ x C b,xs=[.ref x,v]/\H x=some (exH x C)/\XCls X.K C/\XAttr X.K C/\PySem.W.kitOne X.K (.ref C) c=some b/\Q (.bl b) H):=by
 intro pins s σ H xs us Q I r h
 obtain⟨x,C,b,rfl,hx,c1,c2,e,q⟩:=h
 obtain⟨u,w',rfl,r1,r2⟩:=vals2 r
 cases (show u=Value.ref x from r1)
 have e2:=hc _ r2
 subst e2
 obtain⟨p,_⟩:=(show ObjOk X.prog X.w H s.heap x (exH x C) from I.hok x _ hx)
 exact PySem.W.kia_one (kitx_exc PySem.F.attrBase_ValueError c1 c2) I.kIn p e (fun z=>nomatch z) fun tk=>⟨.bl b,H,I.tok _,rfl,q⟩
abbrev Cx.hand (X:Cx) (x:Addr):Cx:={ X with A:=X.A.mark (some (.ref x)),calm:=false,xe:=fun _ _=>False }
def tryE (K:PySem.W.Frag) (D:Addr) (i:Nat) (n:Nat) (th:TS) (De:Ends):XK:=fun c _ H=>∃ C,c=.ref C/\XCls K C/\XAttr K C/\Under K C D/\∀ (σ:L2.St) (x:Addr),σ.length=n->H x=none ->
 th { nx:=fun σ' H'=>De.nx (σ'.set i none) H',rt:=De.rt } (σ.set i (some (.ref x))) (upd H x (exH x C))
section
variable {X:Cx}
theorem Inv.toHand {pins:List (Addr×Obj)} {σ:L2.St} {H:Hp} {s:Shared} (x:Addr) (I:Inv X pins σ H s):Inv (Cx.hand X x) pins σ H s:=
 ⟨⟨I.ok.mod,I.ok.kind,I.ok.glob,I.ok.blt,I.ok.above,I.ok.inj,I.ok.has,I.ok.cab,fun z=>(nomatch z),I.ok.frames,I.ok.stk,I.ok.exf,I.ok.bs,I.ok.bsz,I.ok.noex,I.ok.exfs,I.ok.funs,I.ok.frf⟩,I.os,I.bare,I.base,I.loc,I.cell,I.free,I.freeC,I.pin,I.hok,I.len⟩
theorem Inv.ofHand {pins:List (Addr×Obj)} {σ:L2.St} {H:Hp} {s:Shared} {x:Addr} (ok:X.Ok) (I:Inv (Cx.hand X x) pins σ H s):Inv X pins σ H s:=
 ⟨ok,I.os,I.bare,I.base,I.loc,I.cell,I.free,I.freeC,I.pin,I.hok,I.len⟩
end
section
variable {pl:Bool} {X:Cx} {body suite:List Stmt} {b₀:Stmt} {cn n:Str} {D:Addr} {i:Nat} {p hpos pos:Pos} {tb:Ends->TS} {th:TS}
abbrev xeTry (X:Cx) (hs:List ExceptHandler) (pins:List (Addr×Obj)) (De:Ends):Value->Shared->Prop:=fun e s₁=>
 wpAny (model X.prog X.w) X.A (noteFrame e X.env) (fun _ s₂=>wpAny (model X.prog X.w) X.A (setFlight e none) (fun _ s₃=>wpAny (model X.prog X.w) X.A (handleBy e X.env hs) (SP X pins De) X.xe s₃) X.xe s₂) X.xe s₁
theorem handled {pins:List (Addr×Obj)} {σ:L2.St} {H:Hp} {s:Shared} {De:Ends} {x T C:Addr} (hstk:X.stack=X.env::X.outer) (hfr:X.env.frame=some X.env.locals) (hnoex:X.ex=[]) (hN:X.N.Nodup) (hi:X.N[i]?=some n) (hx:X.env.scope.names.lookup n=some .local)
  (hg:Gl X cn) (hm:X.mg cn=some (.ref D)) (cD:XCls X.K D) (hh:∀ y,PSs (Cx.hand X y) (b₀::suite) th) (hd:(cn == ("__debug__" : Str))=false)
  (I:Inv X pins σ H s) (F:FlyB pl s.heap x T (.ref C) .none) (g1:H x=none) (g2:H T=none) (n1:∀ b,(b=x\/b=T)->X.s₀.heap.get? b=none) (n2:∀ b,(b=x\/b=T)->b≠X.env.locals/\(∀ y c,X.env.cells.lookup y=some c->c≠b)/\∀ p∈X.pn++pins,p.1≠b)
  (q:tryE X.K D i X.N.length th De (.ref C) none H):xeTry X [.ExceptHandler (some (.Name cn p)) (some n) (b₀::suite) hpos] pins De (.ref x) s:=by
 obtain⟨C',e,cC,aC,un,q⟩:=q
 cases e
 have fr:X.A.frames=some (X.env::X.outer):=by rw[<-hstk]; exact I.ok.frames
 have st:s.heap.FunFrames X.base (X.env::X.outer):=by rw[<-hstk]; exact I.stack
 have iσ:i<X.N.length:=(List.getElem?_eq_some_iff.mp hi).1
 have go:∀ {s1:Shared} {h2:Heap} {ch:List Addr},Inv X pins σ H s1->Chg (frs X.stack) ch s1.heap h2->(∀ b∈ch,H b=none/\X.s₀.heap.get? b=none/\b≠X.env.locals/\(∀ y c,X.env.cells.lookup y=some c->c≠b)/\∀ p∈X.pn++pins,p.1≠b)->Inv X pins σ H { s1 with heap:=h2 }:=fun {s1 h2 ch} I1 c hc=>by
  have fs:frs X.stack=X.env.locals::frs X.outer:=by rw[hstk]; show (X.env::X.outer).filterMap (·.frame)=_; rw[List.filterMap_cons,hfr]; rfl
  rw[fs] at c
  obtain⟨m,hn,hl⟩:=id I1.loc
  have nch:X.env.locals∉ch:=fun z=>(hc _ z).2.2.1 rfl
  have keepNs:h2.Ns X.env.locals m:=by
   obtain⟨o,es,ep,ho,r⟩:=hn
   obtain⟨sl,e⟩:=c.slot _ o ho nch
   exact⟨_,es,ep,e,r⟩
  have keepCell:∀ y cc v,X.env.cells.lookup y=some cc->s1.heap.IsCell cc v->h2.IsCell cc v:=fun y cc v e z=>by
   obtain⟨o,ho,hd⟩:=z
   obtain⟨sl,e2⟩:=c.slot _ o ho (fun z=>(hc _ z).2.2.2.1 y cc e rfl)
   exact⟨_,e2,hd⟩
  refine⟨I1.ok,I1.os,I1.bare,Un.chg (L:=X.env.locals) (by rw[<-hnoex]; exact I1.base) c ?_ (fun b hb=>(hc b hb).2.1) |> fun u=>by rw[hnoex]; exact u,⟨m,keepNs,fun j y v e1 e2 e3=>?_⟩,fun y cc e=>?_,I1.free,I1.freeC,fun p hp=>?_,HOk.chg I1.hok c (fun b hb=>?_) (fun b hb=>(hc b hb).1),I1.len⟩
  ·cases e:X.s₀.heap.get? X.env.locals with
   | none=>rfl
   | some o=>exact absurd (Heap.lt_size e) (Nat.not_lt.mpr I1.ok.above)
  ·obtain⟨u,r,l⟩:=hl j y v e1 e2 e3
   refine⟨u,r,?_⟩
   rcases l with l | ⟨k,cc,e,z⟩
   ·exact .inl l
   ·exact .inr ⟨k,cc,e,keepCell y cc _ e z⟩
  ·obtain⟨v,z⟩:=I1.cell y cc e
   exact⟨v,keepCell y cc _ e z⟩
  ·obtain⟨e,n,ne,nf,d⟩:=I1.pin p hp
   exact⟨c.keep _ _ e (fun z=>(List.mem_cons.mp z).elim ne nf) (fun z=>(hc _ z).2.2.2.2 p hp rfl),n,ne,nf,d⟩
  ·have:=I1.stkFree b (by rw[fs]; exact hb)
   exact this
 refine wp_note fr st hfr F fun h1 T1 c1 z1 F1=>?_
 have new1:∀ {s1:Shared} {b:Addr},Inv X pins σ H s1->s1.heap.objs.size<=b->H b=none/\X.s₀.heap.get? b=none/\b≠X.env.locals/\(∀ y c,X.env.cells.lookup y=some c->c≠b)/\∀ p∈X.pn++pins,p.1≠b:=fun {s1 b} I1 hb=>by
  have f:=I1.fpOk hb (I1.hok.fresh hb)
  refine⟨f.1,?_,f.2.1,f.2.2.2.2.1,f.2.2.2.2.2⟩
  cases e:X.s₀.heap.get? b with
  | none=>rfl
  | some o=>exact absurd (Heap.lt_size e) (Nat.not_lt.mpr (Nat.le_trans I1.sz hb))
 have fx:H x=none/\X.s₀.heap.get? x=none/\x≠X.env.locals/\(∀ y c,X.env.cells.lookup y=some c->c≠x)/\∀ p∈X.pn++pins,p.1≠x:=⟨g1,n1 x (.inl rfl),n2 x (.inl rfl)⟩
 have fT:H T=none/\X.s₀.heap.get? T=none/\T≠X.env.locals/\(∀ y c,X.env.cells.lookup y=some c->c≠T)/\∀ p∈X.pn++pins,p.1≠T:=⟨g2,n1 T (.inr rfl),n2 T (.inr rfl)⟩
 have I1:Inv X pins σ H { s with heap:=h1 }:=go I (by rw[hstk]; exact c1) (fun b hb=>by
  simp at hb
  rcases hb with rfl | rfl
  ·exact fx
  ·exact fT)
 have fT1:=new1 I z1
 refine wp_flight (s:={ s with heap:=h1 }) F1 fun h2 c2 F2=>?_
 have I2:Inv X pins σ H { s with heap:=h2 }:=go (s1:={ s with heap:=h1 }) I1 (ch:=[T1]) ⟨fun b o e _ hc=>c2.keep b o e (by simp) hc,c2.slot,c2.size⟩ (fun b hb=>by simp at hb; rw[hb]; exact fT1)
 refine wpAny_handleBy_cons (codeAny_handlers_test ?_) (by intro z; cases z)
 have J2:=Inv.toHand x I2
 refine ld_glob (X:=Cx.hand X x) J2 hg hm ?_ hd
 obtain⟨oe,vs,oT,ts,k1,k2,k3,k4,k5,k6,k7,k8,k9⟩:=id F2
 refine exc_matches I2.kIn k1 k2 cD un ?_
 refine codeAny_handlers_suite_as (wp_flight (s:={ s with heap:=h2 }) F2 fun h3 c3 F3=>?_)
 have I3:Inv X pins σ H { s with heap:=h3 }:=go (s1:={ s with heap:=h2 }) I2 (ch:=[T1]) ⟨fun b o e _ hc=>c3.keep b o e (by simp) hc,c3.slot,c3.size⟩ (fun b hb=>by simp at hb; rw[hb]; exact fT1)
 obtain⟨oe3,vs3,oT3,ts3,m1,m2,m3,m4,m5,m6,m7,m8⟩:=id F3
 have I4:Inv X pins σ (upd H x (exH x C)) { s with heap:=h3 }:=Inv.take I3 g1 fx.2.1 fx.2.2.1 fx.2.2.2.1 fx.2.2.2.2 (exH_ok m1 m2)
 refine store_ok (v:=.ref x) I4 hN hi (.inl hx) rfl (fun s5 I5=>?_) (.inr hx)
 have ok5:=I5.ok
 refine wpAny_mono (hh x pins s5 _ _ { nx:=fun σ' H'=>De.nx (σ'.set i none) H',rt:=De.rt } (Inv.toHand x I5) (q σ x I.len g1)) (fun fl s6 h6=>?_) fun e6 s6 h6=>h6.elim
 have unb:∀ {σ':L2.St} {H':Hp},Inv X pins σ' H' s6->∀ R:L2.St->Shared->Prop,(∀ s7,Inv X pins (σ'.set i none) H' s7->R (σ'.set i none) s7)->wpAny (model X.prog X.w) X.A (do bindName X.env n .none; unbindBehindTheSuite X.env n hpos) (fun _ s7=>R (σ'.set i none) s7) X.xe s6:=fun {σ' H'} I6 R hR=>by
  refine wpAny_bind (wpAny_bindName (store_ok (v:=.non) I6 hN hi (.inl hx) rfl (fun s7 I7=>?_) (.inr hx)))
  refine wpAny_onRaise (unbind_ok (v:=.non) I7 hN hi hx (by rw[List.getElem?_set_self (by rw[I6.len]; exact iσ)]) fun s8 I8=>?_)
  rw[List.set_set] at I8
  exact hR s8 I8
 cases fl with
 | next=>
  obtain⟨σ',H',I6,q6⟩:=h6
  exact wpAny_mono (unb (Inv.ofHand ok5 I6) (fun σ'' s7=>Inv X pins σ'' H' s7/\De.nx σ'' H') fun s7 I7=>⟨I7,q6⟩) (fun _ s7 ⟨I7,q7⟩=>⟨_,_,I7,q7⟩) fun _ _ z=>z
 | ret u=>
  obtain⟨v,σ',H',I6,r6,q6⟩:=h6
  exact wpAny_mono (unb (Inv.ofHand ok5 I6) (fun σ'' s7=>Inv X pins σ'' H' s7) fun s7 I7=>I7) (fun _ s7 I7=>⟨v,_,_,I7,r6,q6⟩) fun _ _ z=>z
 | brk=>
  obtain⟨σ',H',I6,q6⟩:=h6
  exact q6.elim
 | cont=>
  obtain⟨σ',H',I6,q6⟩:=h6
  exact q6.elim
end
end L3
namespace L3
open PySem PySem.Spec PyProof.Rows L2
abbrev Cx.tried (X:Cx) (hs:List ExceptHandler) (pins:List (Addr×Obj)) (De:Ends):Cx:={ X with pn:=X.pn++pins,xe:=xeTry X hs pins De }
section
variable {X:Cx} {hs:List ExceptHandler} {pins:List (Addr×Obj)} {De:Ends} {σ:L2.St} {H:Hp} {s:Shared}
theorem Inv.tried (I:Inv X pins σ H s):Inv (Cx.tried X hs pins De) [] σ H s:=
 ⟨⟨I.ok.mod,I.ok.kind,I.ok.glob,I.ok.blt,I.ok.above,I.ok.inj,I.ok.has,I.ok.cab,I.ok.hd,I.ok.frames,I.ok.stk,I.ok.exf,I.ok.bs,I.ok.bsz,I.ok.noex,I.ok.exfs,I.ok.funs,I.ok.frf⟩,I.os,I.bare,I.base,I.loc,I.cell,I.free,I.freeC,fun p hp=>I.pin p (by simpa using hp),I.hok,I.len⟩
theorem Inv.untried {p2:List (Addr×Obj)} (I:Inv (Cx.tried X hs pins De) p2 σ H s):Inv X pins σ H s:=
 ⟨⟨I.ok.mod,I.ok.kind,I.ok.glob,I.ok.blt,I.ok.above,I.ok.inj,I.ok.has,I.ok.cab,I.ok.hd,I.ok.frames,I.ok.stk,I.ok.exf,I.ok.bs,I.ok.bsz,I.ok.noex,I.ok.exfs,I.ok.funs,I.ok.frf⟩,I.os,I.bare,I.base,I.loc,I.cell,I.free,I.freeC,fun p hp=>I.pin p (by
  show p∈(X.pn++pins)++p2
  exact List.mem_append_left _ hp),I.hok,I.len⟩
end
section
variable {pl:Bool} {X:Cx} {body suite:List Stmt} {b₀:Stmt} {cn n:Str} {D:Addr} {i:Nat} {p hpos pos:Pos} {tb:Ends->TS} {th:TS}
structure Framed (X:Cx):Prop where
 stk:X.stack=X.env::X.outer
 fr:X.env.frame=some X.env.locals
 ex:X.ex=[]
theorem pass_try {pins:List (Addr×Obj)} {De:Ends} (f:Framed X) (hN:X.N.Nodup) (hi:X.N[i]?=some n) (hx:X.env.scope.names.lookup n=some .local) (hg:Gl X cn) (hm:X.mg cn=some (.ref D)) (cD:XCls X.K D) (hh:∀ y,PSs (Cx.hand X y) (b₀::suite) th)
  (hd:(cn == ("__debug__" : Str))=false:=by decide):Passes (CXB pl X.prog X.w) (Cx.tried X [.ExceptHandler (some (.Name cn p)) (some n) (b₀::suite) hpos] pins De) (tryE X.K D i X.N.length th De):=by
 intro p2 σ H s e s' I h
 obtain⟨x,C,T,H',rfl,I',F,g1,g2,n1,n2,q⟩:=Inv.raised I h
 have gone:∀ b,(b=x\/b=T)->s.heap.get? b=none:=fun b hb=>by rcases hb with rfl | rfl <;> assumption
 have J:Inv X pins σ H s:=Inv.untried I
 refine handled f.stk f.fr f.ex hN hi hx hg hm cD hh hd (Inv.untried I') F g1 g2 (fun b hb=>?_) (fun b hb=>⟨?_,fun y c e z=>?_,fun p hp z=>?_⟩) q
 ·cases e:X.s₀.heap.get? b with
  | none=>rfl
  | some o=>
   obtain⟨o',e'⟩:=J.base.there b o e (by rw[f.ex]; simp)
   rw[gone b hb] at e'; cases e'
 ·rintro rfl
  obtain⟨m,⟨o,es,ep,ho,_⟩,_⟩:=J.loc
  rw[gone _ hb] at ho; cases ho
 ·obtain⟨v,o,ho,_⟩:=J.cell y c e
  rw[z,gone b hb] at ho; cases ho
 ·have:=(J.pin p hp).1
  rw[z,gone b hb] at this; cases this
def sTry (tb:Ends->TS):TS:=fun De σ H=>tb De De σ H
theorem ps_try (hb:∀ pins De,PSs (Cx.tried X [.ExceptHandler (some (.Name cn p)) (some n) (b₀::suite) hpos] pins De) body (tb De)):PS X (.Try body [.ExceptHandler (some (.Name cn p)) (some n) (b₀::suite) hpos] [] [] pos) (sTry tb):=by
 intro pins s σ H De I h
 refine wpAny_Try_except (wpAny_mono (hb pins De [] s σ H De (Inv.tried I) h) (fun fl s1 h1=>?_) fun e s1 h1=>h1)
 have cv:∀ {σ':L2.St} {H':Hp},Inv (Cx.tried X [.ExceptHandler (some (.Name cn p)) (some n) (b₀::suite) hpos] pins De) [] σ' H' s1->Inv X pins σ' H' s1:=fun I'=>Inv.untried I'
 cases fl with
 | next=>
  obtain⟨σ',H',I',q'⟩:=h1
  exact wpAny_execs_nil ⟨σ',H',cv I',q'⟩
 | brk=>
  obtain⟨σ',H',I',q'⟩:=h1
  exact⟨σ',H',cv I',q'⟩
 | cont=>
  obtain⟨σ',H',I',q'⟩:=h1
  exact⟨σ',H',cv I',q'⟩
 | ret u=>
  obtain⟨v,σ',H',I',r',q'⟩:=h1
  exact⟨v,σ',H',cv I',r',q'⟩
theorem Fun.okE {pl:Bool} {P:Program} {w:World} {K:PySem.W.Frag} {mg:Str->Option Value} {base:Heap} {x qual:Str} {st:Stmt} {f:Addr} {fd:FuncData} {N ps:List Str} {k:Nat} {sp:Sp} (F:Fun K x qual st f fd) (S:FnScope N ps (defScope st)) (len:∀ vs H Q E,sp vs H Q E->vs.length=ps.length)
  (hbody:∀ (cdv:Value) (A:Around) (outer:List Env) (s:Shared) (H:Hp) (vs:List V) (Q:VK) (E:XK),Room k (A.deeper (envOfC qual (defScope st) s.heap.objs.size f cdv))->sp vs H Q E ->
   ∃ t,PSs (cxB pl P w K mg base N qual (defScope st) f cdv A outer s H E) (defBody st) t/\t { nx:=fun _ H'=>Q .non H',rt:=Q } (start N vs) H):FnOk P w K mg base (CXB pl P w) (k+1) f fd ps sp:=by
 obtain⟨oc,od,kV,doc,pm,an,cdv,ct,osl,rfl,lk,hcd⟩:=F.ex
 exact fn_of lk hcd S len fun A outer s H vs Q E hr hsp=>hbody cdv A outer s H vs Q E hr hsp
theorem FnOk.to0 {pl:Bool} {P:Program} {w:World} {K:PySem.W.Frag} {mg:Str->Option Value} {base:Heap} {k:Nat} {f:Addr} {fd:FuncData} {ps:List Str} {sp:Sp} (F:FnOk P w K mg base (CXB pl P w) k f fd ps sp) (sp0:Sp) (h0:∀ vs H Q E,sp0 vs H Q E->sp vs H Q E0):FnOk P w K mg base CX0 k f fd ps sp0:=
 ⟨fun vs H Q E h=>F.len vs H Q E0 (h0 _ _ _ _ h),fun A outer s H args us vs Q E hr he hb hv hs=>codeAny_mono (F.run A outer s H args us vs Q E0 hr he hb hv (h0 _ _ _ _ hs)) fun r s' h=>by
  cases r with
  | ok fl=>cases fl <;> exact h
  | error e=>
   obtain⟨x,C,T,H',_,_,_,_,_,_,_,_,_,_,q⟩:=h
   exact False.elim q⟩
end
end L3
namespace L3
open PySem PySem.Spec PyProof.Rows L2
def tryEN (K:PySem.W.Frag) (D:Addr) (n:Nat) (th:TS) (De:Ends):XK:=fun c _ H=>∃ C,c=.ref C/\XCls K C/\XAttr K C/\Under K C D/\∀ σ:L2.St,σ.length=n->th { nx:=De.nx,rt:=De.rt } σ H
section
variable {pl:Bool} {X:Cx} {body suite:List Stmt} {b₀:Stmt} {cn:Str} {D:Addr} {p hpos pos:Pos} {tb:Ends->TS} {th:TS}
theorem ps_tryN (hb:∀ pins De,PSs (Cx.tried X [.ExceptHandler (some (.Name cn p)) none (b₀::suite) hpos] pins De) body (tb De)):PS X (.Try body [.ExceptHandler (some (.Name cn p)) none (b₀::suite) hpos] [] [] pos) (sTry tb):=by
 intro pins s σ H De I h
 refine wpAny_Try_except (wpAny_mono (hb pins De [] s σ H De (Inv.tried I) h) (fun fl s1 h1=>?_) fun e s1 h1=>h1)
 have cv:∀ {σ':L2.St} {H':Hp},Inv (Cx.tried X [.ExceptHandler (some (.Name cn p)) none (b₀::suite) hpos] pins De) [] σ' H' s1->Inv X pins σ' H' s1:=fun I'=>Inv.untried I'
 cases fl with
 | next=>
  obtain⟨σ',H',I',q'⟩:=h1
  exact wpAny_execs_nil ⟨σ',H',cv I',q'⟩
 | brk=>
  obtain⟨σ',H',I',q'⟩:=h1
  exact⟨σ',H',cv I',q'⟩
 | cont=>
  obtain⟨σ',H',I',q'⟩:=h1
  exact⟨σ',H',cv I',q'⟩
 | ret u=>
  obtain⟨v,σ',H',I',r',q'⟩:=h1
  exact⟨v,σ',H',cv I',r',q'⟩
end
end L3
namespace L3
open PySem PySem.Spec PyProof.Rows L2
theorem eraseIdx_mapT {α β:Type} (f:α->β):∀ (l:List α) (i:Nat),(l.map f).eraseIdx i=(l.eraseIdx i).map f
 | [],_=>rfl
 | _::_,0=>rfl
 | x::r,i+1=>by simp[eraseIdx_mapT f r i]
section
variable {prog:Program} {w:World} {A:Around} {E:Value->Shared->Prop} {s:Shared} {d:Addr} {es:Array DictEntry} {ep:Nat}
theorem raw_len {Q:Value->Shared->Prop} (lo:(d == sysModules)=false) (m:RawD s.heap d es ep) (hz:(es.size:Int)<2 ^ 63) (q:∀ t t',Q (.int es.size t) { s with toks:=t' }):wpAny (model prog w) A (call (.builtin "len") [.ref d]) Q E s:=by
 obtain⟨o,h1,h2,h3⟩:=id m
 refine Calls.call_function_entry kind_len plain_len entry_len (args_len1 _) ?_
 have inner:MeetsIn prog w (Builtin.«dict.__len__» ⟨[.ref d],[]⟩) (fun _ R s'=>s'.heap.get? d=some o/\R (.ok (.ret (.int es.size s'.toks))) { s' with toks:=s'.toks+1 }):=.of_wp fun A R s' ⟨e,h⟩=>by
  show wpAny _ _ (dictSize d >>= _) _ _ s'
  unfold dictSize
  refine wpAny_bind (wpAny_bind (wpAny_dictEntries e h3 (wpAny_pure ?_)))
  refine wpAny_bind (wpAny_pendingCount_other lo (wpAny_ret_mkInt ?_))
  rw[Nat.add_zero]; exact h
 unfold Builtin.«len»
 refine wpAny_bind (m:=oneArg "len" _) (wpAny_pure ?_)
 refine wpAny_bind (m:=callSpecial? (.ref d) (Str.ofString "__len__")) (wpAny_callSpecial?_slot (name:=Str.ofString "__len__") m.typeIs F.slot_dict_len (call_meetsIn F.slot_dict_len m.typeIs F.entry_dict_len (F.args_dict_len_1 _) inner ⟨h1,?_⟩))
 refine wpAny_bind (wpAny_holding (wpAny_pure (wpAny_bind (wpAny_letGo ?_))))
 show wpAny _ _ (if ((es.size:Nat):Int)<0 then _ else _) _ _ _
 rw[if_neg (by omega)]
 show wpAny _ _ (if ((es.size:Nat):Int)≥2 ^ 63 then _ else _) _ _ _
 rw[if_neg (by omega)]
 exact wpAny_bind (wpAny_mkInt (wpAny_pure ⟨_,rfl,q _ _⟩))
variable {K:Type} [DecidableEq K] {knd:HeapKind prog w K} {xs:List (K×Addr×Value)} {k:K} {a:Addr} {v:Value}
end
section
variable {X:Cx}
theorem call_lenT:CallR X (.builtin "len") (fun xs H Q=>∃ a kvs,xs=[V.ref a]/\H a=some (.dT kvs)/\Q (.int kvs.length) H):=by
 intro pins s σ H xs us Q I r h
 obtain⟨a,kvs,rfl,ha,q⟩:=h
 obtain⟨u,rfl,ru⟩:=vals1 r
 cases ru
 obtain⟨z,lo,xs,rel,o,es,ep,h1,h2,h3,h4,h5,h6⟩:=dt_of I.hok ha
 have hes:es.size=kvs.length:=by rw[size_of_entries h4]; exact (Paired.length rel).symm
 refine raw_len (es:=es) (ep:=ep) lo ⟨o,h1,h2.1,h3⟩ (by rw[hes]; rw[sizeLine_eq] at z; omega) fun t t'=>⟨.int kvs.length,H,I.tok _,?_,q⟩
 rw[hes]; exact⟨t,rfl⟩
end
end L3
namespace L3
open PySem PySem.Spec PyProof.Rows L2
abbrev tD (t:List Int):PyData:=.tuple (t.map .int)
abbrev tsD (ts:List (List Int)):PyData:=.list (ts.map tD)
def kvT (ts:List (List Int)):List (List Key×V):=ts.map fun t=>(kI t,V.bl true)
theorem kI_inj {a b:List Int} (h:kI a=kI b):a=b:=by
 unfold kI at h
 exact (List.map_inj_right (fun x y e=>Sum.inl.inj e)).mp h
theorem valV_kvT (t:List Int):∀ ts:List (List Int),valV (kvT ts) (kI t)=if t∈ts then some (V.bl true) else none
 | []=>rfl
 | u::r=>by
  by_cases e:u=t
  ·subst e
   rw[if_pos (by simp)]
   exact valV_pos rfl
  ·have:valV (kvT (u::r)) (kI t)=valV (kvT r) (kI t):=valV_neg fun z=>e (kI_inj z)
   rw[this,valV_kvT t r]
   have:(t∈u::r)↔t∈r:=by simp[Ne.symm e]
   simp only[this]
theorem putK_kvT {t:List Int} {ts:List (List Int)} (h:t∉ts):putK (kvT ts) (kI t) (.bl true)=kvT (ts++[t]):=by
 rw[putK_new _ (by rw[valV_kvT,if_neg h])]
 simp[kvT]
theorem kvT_keys (ts:List (List Int)):(kvT ts).map (·.1)=ts.map kI:=by simp[kvT]
theorem kvT_len (ts:List (List Int)):(kvT ts).length=ts.length:=by simp[kvT]
theorem perm_sorted:∀ {l m:List (List Int)},l.Perm m->l.Pairwise lxLe->m.Pairwise lxLe->l=m
 | [],m,p,_,_=>by rw[List.Perm.nil_eq p]
 | a::l,[],p,_,_=>by have:=p.length_eq; simp at this
 | a::l,b::m,p,h1,h2=>by
  have ha:a∈b::m:=p.subset (by simp)
  have hb:b∈a::l:=p.symm.subset (by simp)
  have e:a=b:=by
   rcases List.mem_cons.mp ha with e | ha
   ·exact e
   ·rcases List.mem_cons.mp hb with e | hb
    ·exact e.symm
    ·exact Tim.lx_total _ _ ((List.pairwise_cons.mp h2).1 a ha) ((List.pairwise_cons.mp h1).1 b hb)
  subst e
  rw[perm_sorted (List.Perm.cons_inv p) (List.pairwise_cons.mp h1).2 (List.pairwise_cons.mp h2).2]
def SameX (d:Addr) (H H':Hp):Prop:=∀ b o,b≠d->H b=some o->H' b=some o
theorem SameX.of {d:Addr} {H H':Hp} (h:Same H H'):SameX d H H':=fun b o _ e=>h b o e
theorem SameX.trans {d:Addr} {H H1 H2:Hp} (a:SameX d H H1) (b:SameX d H1 H2):SameX d H H2:=fun c o n e=>b c o n (a c o n e)
theorem SameX.upd {d:Addr} {H:Hp} {o:HO}:SameX d H (upd H d o):=fun b u n e=>by rw[upd_ne n]; exact e
structure HallAt (C:Addr) (H:Hp) (h dx c d:Addr) (cols:List Int) (ts:List (List Int)):Prop where
 ob:H h=some (.ins C dx [("colours",.ref c),("door_table",.ref d)])
 cl:H c=some (.lst (cols.map V.int))
 dt:H d=some (.dT (kvT ts))
 nd:ts.Nodup
 th:∀ t∈ts,t.length=3
theorem HallAt.hd {C h dx c d:Addr} {H:Hp} {cols:List Int} {ts:List (List Int)} (a:HallAt C H h dx c d cols ts):h≠d:=ne_of a.ob a.dt (fun e=>by cases e)
theorem HallAt.cd {C h dx c d:Addr} {H:Hp} {cols:List Int} {ts:List (List Int)} (a:HallAt C H h dx c d cols ts):c≠d:=ne_of a.cl a.dt (fun e=>by cases e)
theorem HallAt.same {C h dx c d:Addr} {H H':Hp} {cols:List Int} {ts:List (List Int)} (a:HallAt C H h dx c d cols ts) (s:Same H H'):HallAt C H' h dx c d cols ts:=
 ⟨s _ _ a.ob,s _ _ a.cl,s _ _ a.dt,a.nd,a.th⟩
theorem HallAt.put {C h dx c d:Addr} {H H':Hp} {cols:List Int} {ts ts':List (List Int)} (a:HallAt C H h dx c d cols ts) (s:SameX d H H') (hd:H' d=some (.dT (kvT ts'))) (nd:ts'.Nodup) (th:∀ t∈ts',t.length=3):HallAt C H' h dx c d cols ts':=
 ⟨s _ _ a.hd a.ob,s _ _ a.cd a.cl,hd,nd,th⟩
abbrev Tell (a:Int):Prop:=a.natAbs.log2<1920
theorem tell_of {a:Int} (h1:-10000<a) (h2:a<10000):Tell a:=by
 have:a.natAbs<2 ^ 1920:=Nat.lt_of_lt_of_le (show a.natAbs<10000 by omega) (by decide +kernel)
 by_cases z:a.natAbs=0
 ·show a.natAbs.log2<1920
  rw[z]; decide
 ·exact (Nat.log2_lt z).mpr this
end L3
namespace L3
open PySem PySem.Spec PyProof.Rows L2 Tim
theorem eqvAll_ints:∀ (a b:List Int),PyData.eqvAll (a.map .int) (b.map .int)=decide (a=b)
 | [],[]=>by simp[PyData.eqvAll]
 | [],_::_=>by simp[PyData.eqvAll]
 | _::_,[]=>by simp[PyData.eqvAll]
 | x::a,y::b=>by
  have ih:=eqvAll_ints a b
  by_cases e:x=y
  ·subst e
   simp[PyData.eqvAll,PyData.eqv,ih]
  ·simp[PyData.eqvAll,PyData.eqv,ih,e]
theorem eqv_tD (a b:List Int):PyData.eqv (tD a) (tD b)=decide (a=b):=by
 show PyData.eqv (.tuple _) (.tuple _)=_
 rw[PyData.eqv]; exact eqvAll_ints a b
theorem canAll_ints:∀ ns:List Int,PyData.canLayAll0 (ns.map .int)=true
 | []=>by simp[PyData.canLayAll0]
 | n::r=>by simp[PyData.canLayAll0,PyData.canLay0,canAll_ints r]
theorem can_tD (t:List Int):(tD t).canLay0=true:=by
 show PyData.canLay0 (.tuple _)=true
 rw[PyData.canLay0]; exact canAll_ints t
theorem depAll_ints:∀ ns:List Int,PyData.depthAll (ns.map .int)<=1
 | []=>by simp[PyData.depthAll]
 | n::r=>by have:=depAll_ints r; simp[PyData.depthAll,PyData.depth]; omega
theorem dep_tD (t:List Int):(tD t).depth<=60:=by
 show PyData.depth (.tuple _)<=60
 rw[PyData.depth]
 have:=depAll_ints t
 omega
section
variable {X:Cx} {pins:List (Addr×Obj)} {σ:L2.St} {H:Hp} {s:Shared}
theorem tups_eqAt (I:Inv X pins σ H s) {ts:List (List Int)} {t:List Int} {vs:List V} {its:List Value} {q:Addr} {A:Around} (hu:A.units+60<cLine) (hd:DenL X.K H (ts.map tD) vs) (hv:Vals vs its) (hq:SqT X.K H q (t.map V.int)) :
  (∀ y∈its,SeqAt.EqAt A s y (.ref q) (decide (keyAt s.heap y=some t)))/\its.map (fun y=>decide (keyAt s.heap y=some t))=ts.map (fun x=>decide (x=t)):=by
 induction ts generalizing vs its with
 | nil=>
  have e:vs=[]:=hd
  subst e
  cases hv
  exact⟨fun y hy=>absurd hy (by simp),rfl⟩
 | cons x r ih=>
  obtain⟨v,ws,e,⟨p,ys,e1,e2,e3⟩,e4⟩:=(show ∃ v ws,vs=v::ws/\Den X.K H (tD x) v/\DenL X.K H (r.map tD) ws from hd)
  subst e e1
  cases hv with
  | cons hr hrest=>
   rename_i u us
   obtain rfl:u=Value.ref p:=hr
   obtain⟨i1,i2⟩:=ih e4 hrest
   have e3':=e3.ints
   subst e3'
   have hk:keyAt s.heap (.ref p)=some x:=tup_key (q:=(p,x)) I e2
   obtain⟨as,ra⟩:=Den.reads I (tD x) (.ref p) (.ref p) ⟨p,_,rfl,e2,denL_ints x⟩ rfl
   obtain⟨bs,rb⟩:=Den.reads I (tD t) (.ref q) (.ref q) ⟨q,_,rfl,hq,denL_ints t⟩ rfl
   have hm:min (tD x).depth (tD t).depth<=(tD x).depth:=Nat.min_le_left _ _
   have hdp:=dep_tD x
   have E:=SeqAt.eqAt_reads (tD x) (tD t) A s (.ref p) (.ref q) as bs ra rb (can_tD x) (can_tD t) (by omega)
   rw[eqv_tD] at E
   have hc:decide (keyAt s.heap (.ref p)=some t)=decide (x=t):=by rw[hk]; simp
   refine⟨fun y hy=>?_,by rw[List.map_cons,List.map_cons,i2,hc]⟩
   rcases List.mem_cons.mp hy with rfl | hy
   ·rw[hc]; exact E
   ·exact i1 y hy
theorem any_mem {ts:List (List Int)} {t:List Int} {its:List Value} {h:Heap} (e:its.map (fun y=>decide (keyAt h y=some t))=ts.map (fun x=>decide (x=t))):(its.toArray.any fun y=>decide (keyAt h y=some t))=decide (t∈ts):=by
 have h1:(its.any fun y=>decide (keyAt h y=some t))=(its.map (fun y=>decide (keyAt h y=some t))).any id:=by rw[List.any_map]; rfl
 have h2:(ts.any fun x=>decide (x=t))=(ts.map (fun x=>decide (x=t))).any id:=by rw[List.any_map]; rfl
 rw[List.any_toArray,h1,e,← h2]
 by_cases m:t∈ts
 ·rw[decide_eq_true m]; exact List.any_eq_true.mpr ⟨t,m,by simp⟩
 ·rw[decide_eq_false m]
  exact List.any_eq_false.mpr fun x hx=>by simp; intro z; exact m (z ▸ hx)
end
def rTIn (K:PySem.W.Frag) (neg:Bool):R2:=fun x y H Q=>∃ (q p:Addr) (t:List Int) (ts:List (List Int)) (vs:List V),x=.ref q/\SqT K H q (t.map V.int)/\y=.ref p/\SqL K H p vs/\DenL K H (ts.map tD) vs/\Q (.bl (if neg then !decide (t∈ts) else decide (t∈ts))) H
section
variable {X:Cx}
theorem op_tnotin (hu:X.A.units+64<cLine):OpR X (compareOp .NotIn) (rTIn X.K true):=by
 intro pins s σ H x y v u Q I rx ry h
 obtain⟨q,p,t,ts,vs,rfl,hq,rfl,hp,hd,k⟩:=h
 obtain rfl:v=Value.ref q:=rx
 obtain rfl:u=Value.ref p:=ry
 obtain⟨its,rv,pl,hz⟩:=I.list hp
 obtain⟨g1,g2⟩:=tups_eqAt (A:=X.A.in1) I (show X.A.units+1+60<cLine by omega) hd rv hq
 refine SeqAt.notIn_listAt (fun y=>decide (keyAt s.heap y=some t)) pl.isList (fun y hy=>g1 y (by simpa using hy)) ?_
 rw[any_mem g2]
 exact⟨.bl _,H,I,rfl,k⟩
end
end L3
namespace L3
open PySem PySem.Spec PyProof.Rows L2 Tim
open AutoSeq1 (wpAny_loadPart')
open MeetsSeq
section
variable {X:Cx}
end
end L3
namespace L3
open PySem PySem.Spec PyProof.Rows L2
def cntR (a b c:Int):Nat:=if a<b then ((b-a-1)/c+1).toNat else 0
theorem size_pos {a b c:Int} (hc:0<c):Builtin.Range.rangeSize a b c=(cntR a b c:Int):=by
 unfold Builtin.Range.rangeSize cntR
 have h:∀ x:Int,Int.fdiv x c=x/c:=fun x=>Int.fdiv_eq_ediv_of_nonneg x (Int.le_of_lt hc)
 by_cases h1:a<b
 ·have h2:0<=(b-a-1)/c:=Int.ediv_nonneg (by omega) (by omega)
  simp only[hc,h1,if_true,h]
  first
   | omega
   | (simp; omega)
   | (split <;> omega)
 ·simp only[hc,h1,if_true,if_false,h]
  first
   | rfl
   | omega
   | (simp; omega)
theorem cnt_le {a b c:Int} (hc:0<c):(cntR a b c:Int)<=(if a<b then b-a else 0):=by
 unfold cntR
 by_cases h:a<b
 ·rw[if_pos h,if_pos h]
  have h1:(b-a-1)/c<=b-a-1:=Int.ediv_le_self _ (by omega)
  have h2:0<=(b-a-1)/c:=Int.ediv_nonneg (by omega) (by omega)
  omega
 ·rw[if_neg h,if_neg h]; omega
theorem cnt_in {a b c:Int} {i:Nat} (hc:0<c) (hi:i<cntR a b c):a+i*c<b:=by
 unfold cntR at hi
 by_cases h:a<b
 ·rw[if_pos h] at hi
  have h2:0<=(b-a-1)/c:=Int.ediv_nonneg (by omega) (by omega)
  have h3:(i:Int)<=(b-a-1)/c:=by omega
  have h4:(i:Int)*c<=(b-a-1)/c*c:=Int.mul_le_mul_of_nonneg_right h3 (by omega)
  have h5:(b-a-1)/c*c<=b-a-1:=Int.ediv_mul_le _ (by omega)
  omega
 ·rw[if_neg h] at hi; omega
theorem cnt_pos {a b c:Int} (hc:0<c) (h:a<b):0<cntR a b c:=by
 unfold cntR
 rw[if_pos h]
 have h2:0<=(b-a-1)/c:=Int.ediv_nonneg (by omega) (by omega)
 omega
def Itr3 (lo st:Int) (n:Nat):It:=⟨fun i _=>i<n,fun i H x H'=>H'=H/\x=.int (lo+i*st),fun i _=>n<=i⟩
theorem turn_range3 {P:Program} {w:World} {K:PySem.W.Frag} {tg:Expr} (it:Addr) (lo st:Int) (n:Nat):Turn P w K tg (Itr3 lo st n) [it] it (fun i h=>IsRangeIter h it (lo+(i:Nat)*st) ((n:Int)-(i:Nat)) st) where
 mem:=by simp
 obj:=fun i h g b hb=>by
  obtain rfl:b=it:=by simpa using hb
  exact⟨_,g,fun v z=>by
   have z2:Data.fields _=Data.cell v:=z
   cases z2⟩
 keep:=fun i h h' g k=>k it (by simp) _ g
 item:=by
  intro X hP hw hK hc i pins s σ H E I hf g hg
  subst hP hw hK
  obtain⟨f0,f1,f2,f3,f4,f5⟩:=hf it (by simp)
  refine (Walks.range (prog:=X.prog) (w:=X.w) (I.ok.hd hc) it lo st n).item i s _ _ hg g fun v h' tk hv g' kk=>?_
  obtain⟨t,rfl⟩:=hv
  have I1:Inv X pins σ H { s with heap:=h',toks:=tk }:=I.turned (fun b o hb e=>kk b o (by simpa using hb) e) f0 f1 f3 f4 f5
  exact⟨_,rfl,go_of (s:={ s with heap:=h',toks:=tk }) (n := "range_iterator") g' rfl rfl (by decide) ⟨.int (lo+i*st),H,I1,⟨t,rfl⟩,⟨rfl,rfl⟩,g',fun b hb=>(hf b hb).1⟩⟩
 done:=by
  intro X hP hw hK hc i pins s σ H E I hf g hg
  subst hP hw hK
  obtain⟨f0,f1,f2,f3,f4,f5⟩:=hf it (by simp)
  have hle:n<=i:=hg
  exact wpAny_pyNext_range_end (I.ok.hd hc) g (by omega) fun h' eb=>⟨rfl,I.turned (t':=s.toks) (fun b o hb e=>eb b o hb e) f0 f1 f3 f4 f5⟩
 self:=fun _ _ _ _ _ g h=>wpAny_pyIter_rangeiter g h
theorem fits_long {i:Int} (h1:-(2 ^ 62)<i) (h2:i<2 ^ 62):Builtin.Range.rangeFitsLong i=true:=by
 unfold Builtin.Range.rangeFitsLong
 rw[Bool.and_eq_true]
 exact⟨decide_eq_true (by omega),decide_eq_true (by omega)⟩
def iRng3 (ta:TA):TI:=fun σ H R=>ta σ H fun vs H1=>∃ i j k:Int,vs=[.int i,.int j,.int k]/\(-1000000<i/\i<1000000)/\(-1000000<j/\j<1000000)/\(0<k/\k<1000000)/\R (Itr3 i k (cntR i j k)) H1
theorem pi_range3 {X:Cx} {tg a b c:Expr} {ta:TA} {p pos:Pos} (hg:Gl X "range") (hm:X.mg "range" = none) (ha:PA X [a,b,c] ta) (hs:starEach [a,b,c] X.env=(false,eval a X.env)::starEach [b,c] X.env:=by rfl) (hs2:(backTo pos (starEach [b,c] X.env)).any (·.1)=false:=by rfl) :
  PI X tg (.Call (.Name "range" p) [a,b,c] [] pos) (iRng3 ta):=by
 intro pins s σ H R I h
 refine Call_ (ld_blt I hg hm boot_range (PyProof.Rows.callWith_type1 (thn (ha pos pins s σ H _ I h) fun us s1 ⟨vs,H1,I1,r1,q1⟩=>?_) hs hs2))
 obtain⟨i,j,k,e,⟨i1,i2⟩,⟨j1,j2⟩,⟨k1,k2⟩,q⟩:=q1
 subst e
 cases r1 with
 | cons r rr=>
  cases rr with
  | cons r' rr=>
   cases rr with
   | cons r'' rr=>
    cases rr
    obtain⟨t,rfl⟩:=r
    obtain⟨t',rfl⟩:=r'
    obtain⟨t'',rfl⟩:=r''
    have hcnt:=cnt_le (a:=i) (b:=j) k1
    have hcn:(cntR i j k:Int)<2000000:=by
     refine Int.lt_of_le_of_lt hcnt ?_
     split <;> omega
    have hsm:Builtin.Range.small i j k=true:=by
     unfold Builtin.Range.small
     rw[size_pos k1,fits_long (i:=i) (by omega) (by omega),fits_long (i:=j) (by omega) (by omega),fits_long (i:=k) (by omega) (by omega),fits_long (i:=(cntR i j k:Int)) (by omega) (by omega),if_pos k1,fits_long (i:=j+(k-1)) (by omega) (by omega)]
     simp
    refine call_range_3 (by omega) ?_ (Or.inl (PyProof.noPylong_small (by omega)))
    refine wpAny_pyIter_range (IsRange.new ..) hsm ?_
    rw[size_pos k1]
    have I2:Inv X pins σ H1 { s1 with heap:=s1.heap.push { cls:=.type "range",data:=.fields #[.int i t,.int j t',.int k t''] } }:=I1.kept (t':=s1.toks) fun b o e=>Heap.get?_push_of_some _ e
    refine⟨(s1.heap.push { cls:=.type "range",data:=.fields #[.int i t,.int j t',.int k t''] }).objs.size,[(s1.heap.push { cls:=.type "range",data:=.fields #[.int i t,.int j t',.int k t''] }).objs.size],_,_,H1,rfl,
     I2.kept (t':=s1.toks) fun b o e=>Heap.get?_push_of_some _ e,turn_range3 _ i k (cntR i j k),?_,fun b hb=>?_,q⟩
    ·show IsRangeIter _ _ (i+((0:Nat):Int)*k) (((cntR i j k:Nat):Int)-((0:Nat):Int)) k
     rw[show i+((0:Nat):Int)*k=i by simp,show ((cntR i j k:Nat):Int)-((0:Nat):Int)=(cntR i j k:Nat) by simp]
     exact Heap.get?_push_size _ rfl
    ·obtain rfl:b=(s1.heap.push { cls:=.type "range",data:=.fields #[.int i t,.int j t',.int k t''] }).objs.size:=by simpa using hb
     exact I2.fpOk (Nat.le_refl _) (I2.hok.fresh (Nat.le_refl _))
theorem for_range3 {lo st:Int} {n:Nat} {g:TG} {tb:TS} {D:Ends} {σ:L2.St} {H:Hp} (Pv:Nat->L2.St->Hp->Prop) (h0:Pv 0 σ H)
  (hs:∀ i σ H,i<n->Pv i σ H->g (.int (lo+i*st)) σ H fun σ2 H2=>tb { D with nx:=Pv (i+1),ct:=Pv (i+1),bk:=D.nx } σ2 H2) (hd:∀ σ H,Pv n σ H->D.nx σ H) :
  ∃ W:Nat->Nat->L2.St->Hp->Prop,(∃ m,W 0 m σ H)/\∀ i m σ H,W i m σ H ->
   ((Itr3 lo st n).stop i H/\D.nx σ H)\/((Itr3 lo st n).go i H/\∃ N:L2.St->Hp->Prop,(∀ σ' H',N σ' H'->∃ m',m'<m/\W (i+1) m' σ' H')/\∀ x H',(Itr3 lo st n).yld i H x H'->g x σ H' fun σ2 H2=>tb { D with nx:=N,ct:=N,bk:=D.nx } σ2 H2):=by
 refine⟨fun i m σ H=>m=n-i/\i<=n/\Pv i σ H,⟨n,by simp,Nat.zero_le _,h0⟩,?_⟩
 rintro i m σ H ⟨rfl,hi,p⟩
 by_cases hlt:i<n
 ·refine .inr ⟨hlt,Pv (i+1),fun σ' H' p'=>⟨n-(i+1),by omega,rfl,hlt,p'⟩,fun x H' y=>?_⟩
  obtain⟨e,y⟩:=y
  subst e y
  exact hs i σ _ hlt p
 ·obtain rfl:i=n:=by omega
  exact .inl ⟨Nat.le_refl _,hd σ H p⟩
theorem turns_range3 {lo st:Int} {n:Nat} {g:TG} {tt:TT} {te:TE} {σ0:L2.St} {H0:Hp} {Q:List V->Hp->Prop} (Pv:Nat->L2.St->List V->Hp->Prop) (h0:Pv 0 σ0 [] H0)
  (hl:∀ i σ ys H,i<=n->Pv i σ ys H->ys.length<=i) (hz:n<=sizeLine)
  (hs:∀ i σ ys H,i<n->Pv i σ ys H->g (.int (lo+i*st)) σ H fun σ2 H2=>tt σ2 H2 fun b H3=>if b=true then te σ2 H3 fun y H4=>Pv (i+1) σ2 (ys++[y]) H4 else Pv (i+1) σ2 ys H3)
  (hd:∀ σ ys H,Pv n σ ys H->Q ys H):tTurns (Itr3 lo st n) g tt te σ0 H0 Q:=by
 refine⟨fun i m σ ys H=>m=n-i/\i<=n/\Pv i σ ys H,⟨n,by simp,Nat.zero_le _,h0⟩,?_⟩
 rintro i m σ ys H ⟨rfl,hi,p⟩
 have z:=hl i σ ys H hi p
 by_cases hlt:i<n
 ·refine .inr ⟨hlt,by omega,Pv (i+1),fun σ' ys' H' p'=>⟨n-(i+1),by omega,rfl,hlt,p'⟩,fun x H' y=>?_⟩
  obtain⟨e,y⟩:=y
  subst e y
  exact hs i σ ys _ hlt p
 ·obtain rfl:i=n:=by omega
  exact .inl ⟨Nat.le_refl _,hd σ ys H p⟩
end L3
namespace L3
open PySem PySem.Spec PyProof.Rows L2
section
variable {X:Cx} {o e f:Expr} {td ty tx:TE} {apos cpos:Pos}
end
section
variable {X:Cx} {pins:List (Addr×Obj)} {σ:L2.St} {H:Hp} {s:Shared} {h':Heap}
end
end L3
namespace L3
open PySem PySem.Spec PyProof.Rows L2
section
variable {prog:Program} {w:World} {A:Around} {E:Value->Shared->Prop} {s:Shared} {d:Addr} {K:Type} [DecidableEq K] {knd:HeapKind prog w K} {xs:List (K×Addr×Value)} {k:K} {a:Addr} {v:Value}
end
section
variable {X:Cx} {o e f:Expr} {td ty tx:TE} {apos cpos:Pos}
end
section
variable {X:Cx}
end
end L3
namespace L3
open PySem PySem.Spec PyProof.Rows L2 PySem.Builtin PySem.Builtin.Str
section
variable {X:Cx}
theorem vals_strs:∀ {ys:List Str} {us:List Value},Vals (ys.map V.str) us->StrsAre us ys
 | [],_,.nil=>.nil
 | y::r,_,.cons h t=>by
  obtain⟨tk,rfl⟩:=h
  exact .cons _ _ (vals_strs t)
theorem vals_strValues:∀ (l:List (Str×Tok)),Vals ((l.map (·.1)).map V.str) (strValues l)
 | []=>.nil
 | p::r=>.cons ⟨p.2,rfl⟩ (vals_strValues r)
def rJoin (K:PySem.W.Frag):V->List V->Hp->VK->Prop:=fun x xs H Q=>∃ (sep:Str) (p:Addr) (ys:List Str),x=.str sep/\xs=[.ref p]/\SqL K H p (ys.map V.str)/\sep.length<=16/\(ys.map (·.length)).sum+ys.length<=1048576/\Q (.str (Txt.join sep ys)) H
theorem mt_join:MtR X "str.join" (rJoin X.K):=by
 intro pins s σ H x xs v us Q I rx rv h
 obtain⟨sep,p,ys,rfl,rfl,hq,h1,h2,q⟩:=h
 obtain⟨t,rfl⟩:=rx
 obtain⟨u,rfl,ru⟩:=rv.one
 cases ru
 obtain⟨its,r',pl,hz⟩:=I.list hq
 exact join_listW pl.isList (by simpa using vals_strs r') h1 h2 fun t' k=>⟨.str _,H,I.tok _,⟨_,rfl⟩,q⟩
def rSplit:V->List V->Hp->VK->Prop:=fun x xs H Q=>∃ (z:Str) (c:Nat),x=.str z/\xs=[.str ⟨#[c]⟩]/\z.length+2<=sizeLine/\∀ l,H l=none->Q (.ref l) (upd H l (.lst ((Txt.split z ⟨#[c]⟩).map V.str)))
theorem mt_split:MtR X "str.split" rSplit:=by
 intro pins s σ H v xs w us Q I rx rv h
 obtain⟨x,c,rfl,rfl,hsz,q⟩:=h
 obtain⟨t,rfl⟩:=rx
 obtain⟨u',rfl,ru⟩:=rv.one
 obtain⟨u,rfl⟩:=ru
 have hy:((⟨#[c]⟩ : Str).length == 0)=false:=rfl
 have hn:(partsBetween x (occurrences x ⟨#[c]⟩ 0 x.length (x.length+1)) (⟨#[c]⟩ : Str).length).length<=sizeLine:=by
  have e1:=StrLaws.occ_length_le x ⟨#[c]⟩ 0 x.length (x.length+1)
  rw[length_partsBetween]; omega
 have fin:∀ (l:List (Str×Tok)) (k:Nat),l.map (·.1)=Txt.split x ⟨#[c]⟩->l.length<=sizeLine->EP X pins σ Q (.ref s.heap.objs.size) { s with heap:=s.heap.push { cls:=.type "list",data:=.seq (strValues l).toArray },toks:=k }:=fun l k e hl=>by
  have hv:=vals_strValues l
  rw[e] at hv
  exact⟨.ref s.heap.objs.size,_,I.lnew hv (by rw[<-e]; simpa using hl),rfl,q _ I.fresh⟩
 cases h1:(decide (x.length<(⟨#[c]⟩ : Str).length)||decide (strKind x<strKind (⟨#[c]⟩ : Str)))
 ·cases hf:(occurrences x ⟨#[c]⟩ 0 x.length (x.length+1)).isEmpty
  ·refine call_meets F.slot_str_split (typeIs_str _ _ _) F.entry_str_split (F.args_str_split_2 _ _) (meets_str_split_sep x ⟨#[c]⟩ t u h1 hy hf (by omega) hn) ?_
   show wants _ _ _ { s with toks:=_,heap:=s.heap.push { cls:=.type "list",data:=.seq (strsFrom s.toks (partsBetween x (occurrences x ⟨#[c]⟩ 0 x.length (x.length+1)) (⟨#[c]⟩ : Str).length)).toArray } }
   rw[strsFrom_eq]
   refine fin (numbered s.toks _) _ ((numbered_texts _ _).trans ((if_neg (ne_true_of_eq_false h1)).trans (if_neg (ne_true_of_eq_false hf))).symm) ?_
   have:=congrArg List.length (numbered_texts s.toks (partsBetween x (occurrences x ⟨#[c]⟩ 0 x.length (x.length+1)) (⟨#[c]⟩ : Str).length))
   rw[List.length_map] at this
   omega
  ·exact call_meets F.slot_str_split (typeIs_str _ _ _) F.entry_str_split (F.args_str_split_2 _ _) (meets_str_split_not_found x ⟨#[c]⟩ t u h1 hy hf)
    (fin [(x,t)] s.toks ((if_neg (ne_true_of_eq_false h1)).trans (if_pos hf)).symm (show 1<=sizeLine by decide))
 ·exact call_meets F.slot_str_split (typeIs_str _ _ _) F.entry_str_split (F.args_str_split_2 _ _) (meets_str_split_cannot_occur x ⟨#[c]⟩ t u h1)
   (fin [(x,t)] s.toks (if_pos h1).symm (show 1<=sizeLine by decide))
theorem call_int_str:CallR X (.type "int") (fun xs H Q=>∃ x n,xs=[.str x]/\PySem.intText? x=some n/\x.length<=640/\Q (.int n) H):=by
 intro pins s σ H xs us Q I r h
 obtain⟨x,n,rfl,hn,hl,q⟩:=h
 obtain⟨u,rfl,t,rfl⟩:=vals1 r
 exact PySem.W.KIN.call_text hn hl ⟨.int _,H,I.tok _,⟨_,rfl⟩,q⟩
def Its (z:Str):It:=⟨fun i _=>i<z.length,fun i H x H'=>H'=H/\∃ c,z.cps[i]?=some c/\x=.str ⟨#[c]⟩,fun i _=>z.length<=i⟩
theorem turn_str {P:Program} {w:World} {K:PySem.W.Frag} {tg:Expr} (z:Str) (t:Tok) (it:Addr):Turn P w K tg (Its z) [it] it (fun i h=>h.IsStrIter it "str_ascii_iterator" z t i) where
 mem:=by simp
 obj:=fun i h st b hb=>by
  have e:b=it:=by simpa using hb
  subst e
  obtain⟨o,e,c,d⟩:=st
  exact⟨o,e,fun v z=>by rw[d] at z; cases z⟩
 keep:=fun i h h' st k=>by
  obtain⟨o,e,r⟩:=st
  exact⟨o,k it (by simp) o e,r⟩
 item:=by
  intro X hP hw hK hc i pins s σ H E I hf st hg
  subst hP hw hK
  have hi:i<z.cps.size:=hg
  obtain⟨f0,f1,f2,f3,f4,f5⟩:=hf it (by simp)
  have hx:z.cps[i]?=some z.cps[i]:=by simp[hi]
  refine wpAny_pyNext_ascii_item st hx fun h' st' sb=>?_
  have I1:Inv X pins σ H { s with heap:=h',toks:=s.toks+1 }:=I.turned (t':=s.toks+1) (fun b o hb e=>(sb.2 b hb).trans e) f0 f1 f3 f4 f5
  obtain⟨o,e,c,d⟩:=id st'
  exact⟨_,rfl,go_of (s:={ s with heap:=h',toks:=s.toks+1 }) e c d (by decide) ⟨.str ⟨#[z.cps[i]]⟩,H,I1,⟨_,rfl⟩,⟨rfl,_,hx,rfl⟩,st',fun b hb=>(hf b hb).1⟩⟩
 done:=by
  intro X hP hw hK hc i pins s σ H E I hf st hg
  subst hP hw hK
  have hi:z.cps.size<=i:=hg
  obtain⟨f0,f1,f2,f3,f4,f5⟩:=hf it (by simp)
  exact wpAny_pyNext_ascii_end (I.ok.hd hc) st (by simp[hi]) fun h' eb=>⟨rfl,I.turned (t':=s.toks) (fun b o hb e=>eb b o hb e) f0 f1 f3 f4 f5⟩
 self:=fun _ _ _ _ _ st h=>wpAny_pyIter_striter_ascii st h
def iStr (tl:TE):TI:=fun σ H R=>tl σ H fun x H1=>∃ z,x=.str z/\z.cps.all (·<128)=true/\R (Its z) H1
theorem pi_str {tg l:Expr} {tl:TE} (hl:PE X l tl):PI X tg l (iStr tl):=by
 intro pins s σ H R I h
 refine thn (hl pins s σ H _ I h) fun v s1 ⟨x,H1,I1,r1,q1⟩=>?_
 obtain⟨z,e,ha,q⟩:=q1
 subst e
 obtain⟨t,rfl⟩:=r1
 refine wpAny_pyIter_ascii ha ?_
 refine⟨s1.heap.objs.size,[s1.heap.objs.size],_,_,H1,rfl,I1.kept (t':=s1.toks) fun b o e=>Heap.get?_push_of_some _ e,turn_str z t _,⟨_,Heap.get?_push_size _ rfl,rfl,rfl⟩,fun b hb=>?_,q⟩
 have e:b=s1.heap.objs.size:=by simpa using hb
 subst e
 exact I1.fpOk (Nat.le_refl _) (I1.hok.fresh (Nat.le_refl _))
theorem for_str {z:Str} {g:TG} {tb:TS} {D:Ends} {σ:L2.St} {H:Hp} (Pv:Nat->L2.St->Hp->Prop) (h0:Pv 0 σ H)
  (hs:∀ i c σ H,z.cps[i]?=some c->Pv i σ H->g (.str ⟨#[c]⟩) σ H fun σ2 H2=>tb { D with nx:=Pv (i+1),ct:=Pv (i+1),bk:=D.nx } σ2 H2) (hd:∀ σ H,Pv z.length σ H->D.nx σ H) :
  ∃ W:Nat->Nat->L2.St->Hp->Prop,(∃ m,W 0 m σ H)/\∀ i m σ H,W i m σ H ->
   ((Its z).stop i H/\D.nx σ H)\/((Its z).go i H/\∃ N:L2.St->Hp->Prop,(∀ σ' H',N σ' H'->∃ m',m'<m/\W (i+1) m' σ' H')/\∀ x H',(Its z).yld i H x H'->g x σ H' fun σ2 H2=>tb { D with nx:=N,ct:=N,bk:=D.nx } σ2 H2):=by
 refine⟨fun i m σ H=>m=z.length-i/\i<=z.length/\Pv i σ H,⟨z.length,by simp,Nat.zero_le _,h0⟩,?_⟩
 rintro i m σ H ⟨rfl,hi,p⟩
 by_cases hlt:i<z.length
 ·refine .inr ⟨hlt,Pv (i+1),fun σ' H' p'=>⟨z.length-(i+1),by omega,rfl,hlt,p'⟩,fun x H' y=>?_⟩
  obtain⟨e,c,hc,rfl⟩:=y
  subst e
  exact hs i c σ _ hc p
 ·have e:i=z.length:=by omega
  subst e
  exact .inl ⟨Nat.le_refl _,hd σ H p⟩
end
end L3
namespace L3
open PySem PySem.Spec PyProof.Rows L2 PySem.Builtin PySem.Builtin.Str
def oL (l:List Nat):Str:=⟨l.toArray⟩
theorem oL_of (x:Str):oL x.cps.toList=x:=Str.ext' (by simp[oL])
theorem of_oL (l:List Nat):(oL l).cps.toList=l:=by simp[oL]
theorem oL_len (l:List Nat):(oL l).length=l.length:=by simp[oL,Str.length]
theorem oL_app (a b:List Nat):oL a++oL b=oL (a++b):=Str.ext' (by simp[Str.cps_append,oL])
theorem oL_inj {a b:List Nat} (h:oL a=oL b):a=b:=by rw[<-of_oL a,h,of_oL]
theorem oL_map:∀ (ps:List Str),(ps.map fun p=>p.cps.toList).map oL=ps
 | []=>rfl
 | p::r=>by rw[List.map_cons,List.map_cons,oL_of,oL_map r]
def jn (c:List Nat):List Nat->List (List Nat)->List Nat:=fun w ls=>w++ls.flatMap fun l=>c++l
theorem strJoin_oL (c:List Nat):∀ (ls:List (List Nat)) (w:List Nat),Str.join (oL c) (oL w::ls.map oL)=oL (jn c w ls)
 | [],w=>by
  show oL w=oL (w++[])
  rw[List.append_nil]
 | l::r,w=>by
  show oL w++oL c++Str.join (oL c) (oL l::r.map oL)=_
  rw[strJoin_oL c r l,oL_app,oL_app]
  congr 1
  unfold jn
  rw[List.flatMap_cons,List.append_assoc,List.append_assoc]
theorem join_oL (c:List Nat) (ls:List (List Nat)) (w:List Nat):Txt.join (oL c) (oL w::ls.map oL)=oL (jn c w ls):=(StrLaws.glued_eq_join _ _).trans (strJoin_oL c ls w)
theorem jn_inj {c:Nat}:∀ {ls ls':List (List Nat)} {w w':List Nat},c∉w->c∉w'->(∀ l∈ls,c∉l)->(∀ l∈ls',c∉l)->jn [c] w ls=jn [c] w' ls'->w=w'/\ls=ls':=by
 have key:∀ (w w' r r':List Nat),c∉w->c∉w'->w++c::r=w'++c::r'->w=w'/\r=r':=by
  intro w
  induction w with
  | nil=>
   intro w' r r' _ h' e
   cases w' with
   | nil=>exact⟨rfl,(List.cons.inj e).2⟩
   | cons x t=>
    have:=(List.cons.inj e).1
    subst this
    exact absurd (List.mem_cons_self) h'
  | cons x t ih=>
   intro w' r r' h h' e
   cases w' with
   | nil=>
    have:=(List.cons.inj e).1
    subst this
    exact absurd (List.mem_cons_self) h
   | cons y t'=>
    obtain⟨e1,e2⟩:=List.cons.inj e
    subst e1
    obtain⟨a,b⟩:=ih t' r r' (fun z=>h (List.mem_cons_of_mem _ z)) (fun z=>h' (List.mem_cons_of_mem _ z)) e2
    exact⟨by rw[a],b⟩
 intro ls
 induction ls with
 | nil=>
  intro ls' w w' h h' _ _ e
  cases ls' with
  | nil=>unfold jn at e; simp at e; exact⟨e,rfl⟩
  | cons l' r'=>
   unfold jn at e
   rw[List.flatMap_nil,List.append_nil,List.flatMap_cons] at e
   exact absurd (by rw[e]; simp) h
 | cons l r ih=>
  intro ls' w w' h h' hl hl' e
  cases ls' with
  | nil=>
   unfold jn at e
   rw[List.flatMap_nil,List.append_nil,List.flatMap_cons] at e
   exact absurd (by rw[<-e]; simp) h'
  | cons l' r'=>
   unfold jn at e
   rw[List.flatMap_cons,List.flatMap_cons,List.append_assoc,List.append_assoc] at e
   obtain⟨a,b⟩:=key _ _ _ _ h h' e
   obtain⟨d,f⟩:=ih (hl l (by simp)) (hl' l' (by simp)) (fun x hx=>hl x (by simp[hx])) (fun x hx=>hl' x (by simp[hx])) b
   exact⟨a,by rw[d,f]⟩
theorem split_ne (x:Str) (c:Nat):Txt.split x ⟨#[c]⟩≠[]:=by
 unfold Txt.split
 split
 ·simp
 ·split
  ·simp
  ·rw[StrLaws.partsBetween_eq]
   obtain⟨p,r,e⟩:=StrLaws.partsFrom_ne x (⟨#[c]⟩ : Str).length 0 (occurrences x ⟨#[c]⟩ 0 x.length (x.length+1))
   rw[e]; simp
theorem split_oL {c:Nat} {w:List Nat} {ls:List (List Nat)} (h:c∉w) (hl:∀ l∈ls,c∉l):Txt.split (oL (jn [c] w ls)) ⟨#[c]⟩=oL w::ls.map oL:=by
 have e:=StrLaws.join_split (oL (jn [c] w ls)) ⟨#[c]⟩
 have fr:=StrLaws.split_free (oL (jn [c] w ls)) c
 have ne:=split_ne (oL (jn [c] w ls)) c
 generalize Txt.split (oL (jn [c] w ls)) ⟨#[c]⟩=qs at e fr ne ⊢
 cases qs with
 | nil=>exact absurd rfl ne
 | cons q r=>
  have e2:=strJoin_oL [c] (r.map fun p=>p.cps.toList) q.cps.toList
  rw[oL_map,oL_of] at e2
  have e3:=oL_inj (e2.symm.trans e)
  obtain⟨a,b⟩:=jn_inj (fr q (by simp)) h (fun l hl'=>by
   obtain⟨p,hp,rfl⟩:=List.mem_map.mp hl'
   exact fr p (by simp[hp])) hl e3
  rw[<-a,← b,oL_map,oL_of]
def nt (n:Int):Str:=Str.ofString (toString n)
def dg (n:Int):List Nat:=(nt n).cps.toList
theorem nt_oL (n:Int):nt n=oL (dg n):=(oL_of _).symm
theorem dChar:∀ d:Nat,d<10->(Nat.digitChar d).toNat=48+d:=by decide
theorem dg_nat (m:Nat):dg (m:Int)=(Nat.toDigits 10 m).map Char.toNat:=PySem.W.KIN.signs_num m
theorem dg1 {m:Nat} (h:m<10):dg (m:Int)=[48+m]:=by
 rw[dg_nat,Nat.toDigits_of_lt_base h]
 show [(Nat.digitChar m).toNat]=_
 rw[dChar m h]
theorem dg2 {m:Nat} (h0:10<=m):dg (m:Int)=dg ((m/10:Nat):Int)++[48+m % 10]:=by
 have hm:m % 10<10:=Nat.mod_lt m (by decide)
 have t:Nat.toDigits 10 (m/10)++Nat.toDigits 10 (m % 10)=Nat.toDigits 10 (10*(m/10)+m % 10):=Nat.toDigits_append_toDigits (by decide) (by omega) hm
 rw[Nat.div_add_mod] at t
 rw[dg_nat,dg_nat,← t,List.map_append,Nat.toDigits_of_lt_base hm]
 show _++[(Nat.digitChar (m % 10)).toNat]=_
 rw[dChar _ hm]
theorem dg_shape {n:Int} (h0:0<=n) (h1:n<1000):(∃ a,dg n=[a]/\48<=a/\a<=57)\/(∃ a b,dg n=[a,b]/\(49<=a/\a<=57)/\48<=b/\b<=57)\/∃ a b c,dg n=[a,b,c]/\(49<=a/\a<=57)/\(48<=b/\b<=57)/\48<=c/\c<=57:=by
 obtain⟨m,rfl⟩:=Int.eq_ofNat_of_zero_le h0
 by_cases h:m<10
 ·exact .inl ⟨48+m,dg1 h,by omega,by omega⟩
 ·by_cases h2:m<100
  ·exact .inr (.inl ⟨48+m/10,48+m % 10,by rw[dg2 (by omega),dg1 (by omega)]; rfl,by omega,by omega,by omega⟩)
  ·exact .inr (.inr ⟨48+m/10/10,48+m/10 % 10,48+m % 10,by rw[dg2 (by omega),dg2 (m:=m/10) (by omega),dg1 (by omega)]; rfl,by omega,by omega,by omega,by omega⟩)
theorem dg_mem {n:Int} (h0:0<=n) (h1:n<1000):∀ c∈dg n,48<=c/\c<=57:=by
 rcases dg_shape h0 h1 with ⟨a,e,h⟩ | ⟨a,b,e,h2,h3⟩ | ⟨a,b,c,e,h2,h3,h4⟩ <;> rw[e] <;> intro x hx <;> simp at hx
 ·subst hx; omega
 ·rcases hx with rfl | rfl <;> omega
 ·rcases hx with rfl | rfl | rfl <;> omega
theorem dg_len {n:Int} (h0:0<=n) (h1:n<1000):1<=(dg n).length/\(dg n).length<=3:=by
 rcases dg_shape h0 h1 with ⟨a,e,h⟩ | ⟨a,b,e,h2,h3⟩ | ⟨a,b,c,e,h2,h3,h4⟩ <;> rw[e] <;> simp
theorem dg_head {n:Int} (h0:0<=n) (h1:n<1000):∃ a r,dg n=a::r/\(a=48->r=[]):=by
 rcases dg_shape h0 h1 with ⟨a,e,h⟩ | ⟨a,b,e,h2,h3⟩ | ⟨a,b,c,e,h2,h3,h4⟩
 ·exact⟨a,[],e,fun _=>rfl⟩
 ·exact⟨a,_,e,fun z=>by omega⟩
 ·exact⟨a,_,e,fun z=>by omega⟩
def figs:Str:=⟨#[48,49,50,51,52,53,54,55,56,57]⟩
theorem in_figs:∀ c:Nat,48<=c->c<=57->(occurrences figs ⟨#[c]⟩ 0 figs.length 1).isEmpty=false:=by
 intro c h1 h2
 have:c∈(List.range 10).map (48+·):=List.mem_map.mpr ⟨c-48,List.mem_range.mpr (by omega),by omega⟩
 exact (show ∀ c∈(List.range 10).map (48+·),(occurrences figs ⟨#[c]⟩ 0 figs.length 1).isEmpty=false by decide +kernel) c this
def lineL (w:List Nat) (ns:List Int):List Nat:=jn [32] w (ns.map dg)
theorem nts (ns:List Int):ns.map nt=(ns.map dg).map oL:=by
 rw[List.map_map]
 exact List.map_congr_left fun n _=>nt_oL n
theorem join_line (w:List Nat) (ns:List Int):Txt.join (oL [32]) (oL w::ns.map nt)=oL (lineL w ns):=by
 rw[nts,join_oL]; rfl
theorem line_len {w:List Nat}:∀ {ns:List Int},(∀ n∈ns,0<=n/\n<1000)->(lineL w ns).length<=w.length+4*ns.length
 | [],_=>by simp[lineL,jn]
 | n::r,h=>by
  have ih:=line_len (w:=[]) (ns:=r) fun x hx=>h x (by simp[hx])
  have:=(dg_len (h n (by simp)).1 (h n (by simp)).2).2
  simp[lineL,jn] at ih ⊢
  omega
theorem line_mem {w:List Nat} {ns:List Int} (hn:∀ n∈ns,0<=n/\n<1000) {c:Nat} (hc:c∈lineL w ns):c∈w\/c=32\/(48<=c/\c<=57):=by
 unfold lineL jn at hc
 rcases List.mem_append.mp hc with h | h
 ·exact .inl h
 ·obtain⟨l,hl,z⟩:=List.mem_flatMap.mp h
  obtain⟨n,hn',rfl⟩:=List.mem_map.mp hl
  simp at z
  rcases z with rfl | z
  ·exact .inr (.inl rfl)
  ·exact .inr (.inr (dg_mem (hn n hn').1 (hn n hn').2 c z))
def textL (ls:List (List Nat)):List Nat:=ls.flatMap (·++[10])
theorem join_text (ls:List (List Nat)) (l:List Nat):Txt.join (oL []) (oL (l++[10])::(ls.map fun l=>oL (l++[10])))=oL (textL (l::ls)):=by
 have:(ls.map fun l=>oL (l++[10]))=(ls.map (·++[10])).map oL:=by rw[List.map_map]; rfl
 rw[this,join_oL]
 congr 1
 unfold jn textL
 rw[List.flatMap_cons,List.flatMap_map]
 rfl
theorem text_jn:∀ (ls:List (List Nat)) (l:List Nat),textL (l::ls)=jn [10] l (ls++[[]])
 | [],l=>by simp[textL,jn]
 | m::r,l=>by
  have:=text_jn r m
  unfold textL jn at *
  rw[List.flatMap_cons,this]
  simp
theorem textL_len {B:Nat}:∀ {ls:List (List Nat)},(∀ l∈ls,l.length<=B)->(textL ls).length<=ls.length*(B+1)
 | [],_=>by simp[textL]
 | l::r,h=>by
  have ih:=textL_len (B:=B) (ls:=r) fun x hx=>h x (by simp[hx])
  have:=h l (by simp)
  unfold textL at *
  rw[List.flatMap_cons,List.length_append,List.length_append]
  have e:(l::r).length*(B+1)=r.length*(B+1)+(B+1):=by rw[List.length_cons,Nat.add_mul,Nat.one_mul]
  have e1:([10]:List Nat).length=1:=rfl
  omega
theorem cut1 (x:V) (r:List V):cutV (x::r) (some 1) none=r:=by
 unfold cutV
 rw[HT.sIx_none,show HT.sIx (x::r).length 0 (some 1)=min 1 (x::r).length from HT.sIx_nat _ _ 1]
 have e:min 1 (x::r).length=1:=by simp
 rw[e,List.drop_one,List.tail_cons]
 exact List.take_of_length_le (by simp)
end L3
namespace L3
open PySem PySem.Spec PyProof.Rows L2
section
variable {pl:Bool} {M:Model} {A:Around} {E:Value->Shared->Prop} {s:Shared} {base:Heap} {env:Env} {outer:List Env} {L x T:Addr} {cls fl:Value} {Q:Unit->Shared->Prop}
theorem noteFrame_congr {e1 e2:Env} (h:e1.frame=e2.frame) (v:Value):noteFrame v e1=noteFrame v e2:=by
 unfold noteFrame PySem.frameOf
 rw[h]
theorem wp_noteA (hfr:A.frames=some (env::outer)) (hl:s.heap.FunFrames base (env::outer)) (hf:env.frame=some L) (F:FlyB pl s.heap x T cls fl)
  (h:∀ h' T',Chg ((env::outer).filterMap (·.frame)) [x,T] s.heap h'->(T'=T\/s.heap.objs.size<=T')->FlyB pl h' x T' cls (rawInt L)->Q () { s with heap:=h' }):wpAny M A (noteFrame (.ref x) env) Q E s:=by
 obtain⟨oe,vs,oT,ts,g1,g2,g3,g4,g5,g6,g7,g8,g9⟩:=id F
 subst g2
 by_cases hz:(fl == rawInt L)=true
 ·unfold noteFrame
  simp only[hf]
  refine wpAny_bind (wpAny_field g1 g3 g4 ?_)
  rw[if_pos (show (Value.ref T != Value.none)=true from by simp)]
  refine wpAny_bind (wpAny_field g6 g7 g8 ?_)
  rw[if_pos hz]
  have e:=beq_iff_eq.mp hz
  subst e
  exact wpAny_pure (h s.heap T ⟨fun b o e _ _=>e,fun b o e _=>⟨o.slots,e⟩,Nat.le_refl _⟩ (.inl rfl) F)
 ·unfold noteFrame
  simp only[hf]
  refine wpAny_bind (wpAny_field g1 g3 g4 ?_)
  rw[if_pos (show (Value.ref T != Value.none)=true from by simp)]
  refine wpAny_bind (wpAny_field g6 g7 g8 ?_)
  rw[if_neg hz]
  refine wpAny_bind (wpAny_setField g6 g7 (Array.getElem?_eq_some_iff.mp g8).1 ?_)
  have e1:(s.heap.update T (Obj.mapFields (·.setIfInBounds 3 Value.none))).get? x=some oe:=by rw[Heap.get?_update_ne _ _ _ _ (Ne.symm g5)]; exact g1
  refine wp_entry (s:={ s with heap:=s.heap.update T (Obj.mapFields (·.setIfInBounds 3 Value.none)) }) (base:=base) hfr (hl.of_keeps fun b o hb hnf=>?_) hf e1 g3 (Array.getElem?_eq_some_iff.mp g4).1 g9 fun h' T' c z F'=>?_
  ·refine⟨o,?_,rfl⟩
   show (s.heap.update T _).get? b=some o
   rw[Heap.get?_update_ne _ _ _ _ (fun z=>by subst z; rw[g6] at hb; cases hb; exact hnf ts g7)]; exact hb
  ·refine h h' T' ((Chg.upd.wide (by simp)).trans (c.wide (by simp))) (.inr ?_) F'
   have z':(s.heap.update T (Obj.mapFields (·.setIfInBounds 3 Value.none))).objs.size<=T':=z
   rw[Heap.size_update] at z'; exact z'
theorem wp_leaveA (hfr:A.frames=some (env::outer)) (hl:s.heap.FunFrames base (env::outer)) (hf:env.frame=some L) (F:FlyB pl s.heap x T cls fl)
  (h:∀ h' T',Chg ((env::outer).filterMap (·.frame)) [x,T] s.heap h'->(T'=T\/s.heap.objs.size<=T')->FlyB pl h' x T' cls .none->Q () { s with heap:=h' }):wpAny M A (leaving env (.ref x)) Q E s:=by
 unfold leaving
 refine wpAny_bind (wp_noteA hfr hl hf F fun h' T' c z F1=>wp_flight F1 fun h2 c2 F2=>?_)
 refine h h2 T' ((c.wide (ch':=[x,T,T']) (by simp)).trans ⟨fun b o e hb hc=>c2.keep b o e (by simp) fun q=>hc (by simp at q; simp[q]),fun b o e hc=>c2.slot b o e fun q=>hc (by simp at q; simp[q]),c2.size⟩ |>.old fun b hb=>?_) z F2
 simp at hb
 rcases hb with rfl | rfl | rfl
 ·simp
 ·simp
 ·rcases z with rfl | z
  ·simp
  ·exact .inr z
end
theorem Inv.chg {X:Cx} {pins:List (Addr×Obj)} {σ:L2.St} {H:Hp} {s1:Shared} {h2:Heap} {ch:List Addr} (hstk:X.stack=X.env::X.outer) (hfr:X.env.frame=some X.env.locals) (hnoex:X.ex=[]) (I1:Inv X pins σ H s1) (c:Chg (frs X.stack) ch s1.heap h2) (hc:∀ b∈ch,H b=none/\X.s₀.heap.get? b=none/\b≠X.env.locals/\(∀ y c,X.env.cells.lookup y=some c->c≠b)/\∀ p∈X.pn++pins,p.1≠b):Inv X pins σ H { s1 with heap:=h2 }:=by
 have fs:frs X.stack=X.env.locals::frs X.outer:=by rw[hstk]; show (X.env::X.outer).filterMap (·.frame)=_; rw[List.filterMap_cons,hfr]; rfl
 rw[fs] at c
 obtain⟨m,hn,hl⟩:=id I1.loc
 have nch:X.env.locals∉ch:=fun z=>(hc _ z).2.2.1 rfl
 have keepNs:h2.Ns X.env.locals m:=by
  obtain⟨o,es,ep,ho,r⟩:=hn
  obtain⟨sl,e⟩:=c.slot _ o ho nch
  exact⟨_,es,ep,e,r⟩
 have keepCell:∀ y cc v,X.env.cells.lookup y=some cc->s1.heap.IsCell cc v->h2.IsCell cc v:=fun y cc v e z=>by
  obtain⟨o,ho,hd⟩:=z
  obtain⟨sl,e2⟩:=c.slot _ o ho (fun z=>(hc _ z).2.2.2.1 y cc e rfl)
  exact⟨_,e2,hd⟩
 refine⟨I1.ok,I1.os,I1.bare,Un.chg (L:=X.env.locals) (by rw[<-hnoex]; exact I1.base) c ?_ (fun b hb=>(hc b hb).2.1) |> fun u=>by rw[hnoex]; exact u,⟨m,keepNs,fun j y v e1 e2 e3=>?_⟩,fun y cc e=>?_,I1.free,I1.freeC,fun p hp=>?_,HOk.chg I1.hok c (fun b hb=>?_) (fun b hb=>(hc b hb).1),I1.len⟩
 ·cases e:X.s₀.heap.get? X.env.locals with
  | none=>rfl
  | some o=>exact absurd (Heap.lt_size e) (Nat.not_lt.mpr I1.ok.above)
 ·obtain⟨u,r,l⟩:=hl j y v e1 e2 e3
  refine⟨u,r,?_⟩
  rcases l with l | ⟨k,cc,e,z⟩
  ·exact .inl l
  ·exact .inr ⟨k,cc,e,keepCell y cc _ e z⟩
 ·obtain⟨v,z⟩:=I1.cell y cc e
  exact⟨v,keepCell y cc _ e z⟩
 ·obtain⟨e,n,ne,nf,d⟩:=I1.pin p hp
  exact⟨c.keep _ _ e (fun z=>(List.mem_cons.mp z).elim ne nf) (fun z=>(hc _ z).2.2.2.2 p hp rfl),n,ne,nf,d⟩
 ·have:=I1.stkFree b (by rw[fs]; exact hb)
  exact this
section
variable {pl:Bool} {P:Program} {w:World} {K:PySem.W.Frag} {mg:Str->Option Value} {base:Heap} {N:List Str} {qual:Str} {scope:Scope} {f:Addr} {cd:Value} {A:Around} {outer:List Env} {s₀:Shared} {H₀:Hp} {E₀:XK}
theorem xe_flyA {pins:List (Addr×Obj)} {σ:L2.St} {H:Hp} {s:Shared} {x C T:Addr} {fl:Value} (I:Inv (cxB pl P w K mg base N qual scope f cd A outer s₀ H₀ E₀) pins σ H s) (F:FlyB pl s.heap x T (.ref C) fl) (hx:H x=none) (hT:H T=none)
  (nx:s₀.heap.get? x=none) (nT:s₀.heap.get? T=none) (q:E₀ (.ref C) none H):(cxB pl P w K mg base N qual scope f cd A outer s₀ H₀ E₀).xe (.ref x) s:=by
 have fr:=I.ok.frames
 have st:=I.stack
 have sf:=I.stkFree
 refine wp_leaveA (base:=base) (L:=s₀.heap.objs.size) fr st rfl F fun h' T' c z F'=>?_
 have nL:s₀.heap.get? s₀.heap.objs.size=none:=by
  cases e:s₀.heap.get? s₀.heap.objs.size with
  | none=>rfl
  | some o=>exact absurd (Heap.lt_size e) (Nat.lt_irrefl _)
 have nT':s₀.heap.get? T'=none:=by
  rcases z with rfl | z
  ·exact nT
  ·cases e:s₀.heap.get? T' with
   | none=>rfl
   | some o=>exact absurd (Heap.lt_size e) (Nat.not_lt.mpr (Nat.le_trans I.sz z))
 have hT':H T'=none:=by
  rcases z with rfl | z
  ·exact hT
  ·exact I.hok.fresh z
 refine⟨x,C,T',H,rfl,I.os,I.bare,Un.chg (L:=s₀.heap.objs.size) I.base c nL (fun b hb=>?_),HOk.chg I.hok c (fun b hb=>sf b hb) (fun b hb=>?_),nx,nT',F',hx,hT',q⟩
 ·simp at hb; rcases hb with rfl | rfl
  ·exact nx
  ·exact nT
 ·simp at hb; rcases hb with rfl | rfl
  ·exact hx
  ·exact hT
end
theorem codeAny_compLoop_E {prog:Program} {w:World} {A:Around} {R:Result->Shared->Prop} {s:Shared} {elt target iter:Expr} {ifs:List Expr} {scope:Scope} {pos:Pos} {it acc:Value} {env:Env} (I:Nat->Shared->Prop)
  (turn:∀ n s,I n s->wpAny (model prog w) A (pyNext it) (fun r s₁=>match r with
   | none=>R (.ok .next) s₁
   | some v=>wpAny (model prog w) A (letOwnedTupleGo target it v) (fun _ s₁'=>wpAny (model prog w) A (assign target env v) (fun _ s₂=>
     wpAny (model prog w) A (forIn ifs true fun c r=>if r=true then do let ok ← isTrue c env (eval c env); pure (ForInStep.yield ok) else pure (ForInStep.yield r)) (fun ok s₃=>
      if ok=true then wpAny (model prog w) A (eval elt env) (fun x s₄=>
       wpAny (model prog w) A (call (.builtin "list.append") [acc,x]) (fun _ s₅=>∃ m,m<n/\I m s₅) (fun _ _=>False) s₄) (notedBy (model prog w) A env fun x s'=>R (.error x) s') s₃
      else ∃ m,m<n/\I m s₃) (fun _ _=>False) s₂) (fun _ _=>False) s₁') (fun _ _=>False) s₁) (fun _ _=>False) s)
  (n:Nat) (h:I n s) :
  codeAny (model prog w) A (.compLoop (.ListComp elt [⟨target,iter,ifs,0⟩] scope pos) 0 it acc env) R s:=by
 refine codeAny_loop rfl I (fun n s hI=>?_) n h
 show wpAny _ A ((compTurn (.ListComp elt [⟨target,iter,ifs,0⟩] scope pos) 0 it acc env).onRaise (fun x=>do noteFrame x env; theTreesLotGoes x)) _ _ s
 refine wpAny_noted ?_
 rw[compTurn_list]
 refine wpAny_bind (wpAny_standAt (wpAny_bind (wpAny_mono (turn n s hI) (fun r s₁ h₁=>?_) fun _ _ h'=>h'.elim)))
 cases r with
 | none=>exact wpAny_pure h₁
 | some v=>
  refine wpAny_bind (wpAny_mono h₁ (fun _ s₁' h₁'=>?_) fun _ _ h'=>h'.elim)
  refine wpAny_bind (wpAny_mono h₁' (fun _ s₂ h₂=>wpAny_bind (wpAny_mono h₂ (fun ok s₃ h₃=>?_) fun _ _ h'=>h'.elim)) fun _ _ h'=>h'.elim)
  cases ok with
  | false=>exact wpAny_pure ⟨rfl,h₃⟩
  | true=>
   exact wpAny_bind (wpAny_bind (wpAny_mono h₃ (fun x s₄ h₄=>wpAny_bind (wpAny_mono h₄ (fun _ s₅ h₅=>wpAny_pure (wpAny_pure ⟨rfl,h₅⟩)) fun _ _ h'=>h'.elim)) fun _ _ h'=>h'))
def xeComp (pl:Bool) (X':Cx) (Ec:XK):Value->Shared->Prop:=fun e s'=>∃ (x Cc T:Addr) (H1:Hp) (p1 p2:List (Addr×Obj)) (σ1 σ2:L2.St) (s1:Shared) (H2:Hp),e=.ref x/\Inv X' p1 σ1 H1 s1/\Inv X' p2 σ2 H2 s'/\FlyB pl s'.heap x T (.ref Cc) .none/\H2 x=none/\H2 T=none/\s1.heap.get? x=none/\s1.heap.get? T=none/\Ec (.ref Cc) none H2
def cxCompE (pl:Bool) (X:Cx) (N':List Str) (sc:Scope) (C:Addr) (s₀:Shared) (H₀:Hp) (ex:List Addr) (Ec:XK):Cx:=(cxComp X N' sc C s₀ H₀ ex).wish (xeComp pl (cxComp X N' sc C s₀ H₀ ex) Ec)
theorem pass_comp {pl:Bool} {X:Cx} {N':List Str} {sc:Scope} {C:Addr} {s₀:Shared} {H₀:Hp} {ex:List Addr} {Ec:XK}:Passes (CXB pl X.prog X.w) (cxCompE pl X N' sc C s₀ H₀ ex Ec) Ec:=by
 intro pins σ H s e s' I h
 have I0:Inv (cxComp X N' sc C s₀ H₀ ex) pins σ H s:=Inv.unwish I
 obtain⟨x,Cc,T,H',rfl,I',F,g1,g2,n1,n2,q⟩:=Inv.raised I0 h
 exact⟨x,Cc,T,H,pins,pins,σ,σ,s,H',rfl,I0,I',F,g1,g2,n1,n2,q⟩
section
variable {pl:Bool} {X:Cx} {pins:List (Addr×Obj)} {σ:L2.St} {H:Hp} {s:Shared} {o sc:Scope} {N N':List Str} {src:List (Option Nat)}
theorem comp_coreE {Ec:XK} {elt target iter:Expr} {ifs:List Expr} {pos:Pos} {J:It} {fp:List Addr} {it:Addr} {tn:Nat->Heap->Prop} {g:TG} {tt:TT} {te:TE} {Q:List V->Hp->Prop} {E:Value->Shared->Prop}
  {RR:Value->Addr->Result->Shared->Prop} (hc:X.calm=true) (CS:CompScope o N sc N' src) (ho:X.env.scope=o) (hN:X.N=N)
  (hg:∀ C s₀ H₀ ex,PG (cxComp X N' sc C s₀ H₀ ex) target g) (hifs:∀ C s₀ H₀ ex,PIfs (cxComp X N' sc C s₀ H₀ ex) ifs tt) (helt:∀ C s₀ H₀ ex,PE (cxCompE pl X N' sc C s₀ H₀ ex Ec) elt te)
  (I:Inv X pins σ H s) (T:Turn X.prog X.w X.K target J fp it tn) (st:tn 0 s.heap) (hf:∀ b∈fp,FpOk X pins H b) (h:tTurns J g tt te (takeSt src σ) H Q)
  (hRR:∀ (D C:Addr) (s':Shared) (ys:List V) (its:List Value) (n:Nat) (H':Hp),Inv X pins σ H' s'->FpOk X pins H' D->FpOk X pins H' C->D≠C->(∃ m,s'.heap.Ns C m)->Vals ys its->s'.heap.get? D=some (listObj its n)->ys.length<=sizeLine ->
   Q ys H'->RR (.ref D) C (.ok .next) s')
  (hRE:∀ (D C x T Cc:Addr) (s':Shared) (H':Hp),Inv X pins σ H' s'->FpOk X pins H' C->(∃ m,s'.heap.Ns C m)->FlyB pl s'.heap x T (.ref Cc) .none->H' x=none->H' T=none->(∀ b,(b=x\/b=T)->(b∉X.ex->X.s₀.heap.get? b=none)/\b≠C/\b≠X.env.locals/\(∀ y c,X.env.cells.lookup y=some c->c≠b)/\∀ p∈X.pn++pins,p.1≠b)->Ec (.ref Cc) none H' ->
   notedBy (model X.prog X.w) X.A (compEnvR sc C X.env) (fun e s''=>RR (.ref D) C (.error e) s'') (.ref x) s') :
  wpAny (model X.prog X.w) X.A (newList []) (fun acc s₃=>wpAny (model X.prog X.w) X.A (newFunctionEnv sc X.env.globals (closeL X.env.cells sc.names []) [] X.env.qual none .none (some X.env)) (fun cenv s₄=>
   codeAny (model X.prog X.w) X.A (.compStart (.ListComp elt [⟨target,iter,ifs,0⟩] sc pos) 0 (.ref it) acc { cenv with scope:=relabel sc X.env }) (RR acc cenv.locals) s₄) E s₃) E s:=by
 refine wpAny_newObj_type (wpAny_newEnvComp ?_) (by size_fits)
 generalize hD:s.heap.objs.size=D
 generalize hh3:s.heap.push { cls:=.type "list",data:=.seq ([]:List Value).toArray }=h3
 have I3:Inv X pins σ H { s with heap:=h3 }:=by rw[<-hh3]; exact I.kept (t':=s.toks) fun b u e=>Heap.get?_push_of_some _ e
 have eD3:h3.get? D=some (listObj [] 0):=by rw[<-hh3,← hD]; exact Heap.get?_push_size _ rfl
 have sz3:h3.objs.size=D+1:=by rw[<-hh3,← hD,Heap.size_push]
 have fD:FpOk X pins H D:=by rw[<-hD]; exact I.fpOk (Nat.le_refl _) (I.hok.fresh (Nat.le_refl _))
 have fpLt:∀ b∈fp,b<D:=fun b hb=>by
  obtain⟨ob,e,_⟩:=T.obj 0 _ st b hb
  rw[<-hD]; exact Heap.lt_size e
 have nDfp:D∉fp:=fun z=>Nat.lt_irrefl _ (fpLt D z)
 have hfD:∀ b∈D::fp,FpOk X pins H b:=fun b hb=>by
  rcases List.mem_cons.mp hb with e | hb
  ·rw[e]; exact fD
  ·exact hf b hb
 have hltD:∀ b∈D::fp,b<({ s with heap:=h3 }:Shared).heap.objs.size:=fun b hb=>by
  show b<h3.objs.size
  rw[sz3]
  rcases List.mem_cons.mp hb with e | hb
  ·rw[e]; exact Nat.lt_succ_self _
  ·exact Nat.lt_succ_of_lt (fpLt b hb)
 have IC:=Inv.comp (ex:=D::fp) I3 hc CS ho hN hfD hltD
 generalize hX:cxComp X N' sc ({ s with heap:=h3 }:Shared).heap.objs.size { s with heap:=h3 } H (D::fp)=X' at IC
 have hC:X'.env.locals=D+1:=by rw[<-hX]; exact sz3
 have hfs:X'.fs=frs X.stack:=by rw[<-hX]; rfl
 have hex:X'.ex=D::fp:=by rw[<-hX]; rfl
 have hA:X'.A=X.A:=by rw[<-hX]; rfl
 have hP:X'.prog=X.prog:=by rw[<-hX]; rfl
 have hw:X'.w=X.w:=by rw[<-hX]; rfl
 have hK:X'.K=X.K:=by rw[<-hX]; rfl
 have hcm:X'.calm=true:=by rw[<-hX]; exact hc
 have hxe:X'.xe=fun _ _=>False:=by rw[<-hX]; rfl
 have henv:X'.env=compEnvR sc (D+1) X.env:=by rw[<-hX,← sz3]; rfl
 have hs0:X'.s₀={ s with heap:=h3 }:=by rw[<-hX]; rfl
 have hH0:X'.H₀=H:=by rw[<-hX]; rfl
 have hpn:X'.pn=[]:=by rw[<-hX]; rfl
 have hg':PG X' target g:=by rw[<-hX]; exact hg _ _ _ _
 have hifs':PIfs X' ifs tt:=by rw[<-hX]; exact hifs _ _ _ _
 have helt':PE (X'.wish (xeComp pl X' Ec)) elt te:=by rw[<-hX]; exact helt _ _ _ _
 clear hg hifs helt
 have hRE':∀ (D2 x T Cc:Addr) (s':Shared) (H':Hp),Inv X pins σ H' s'->FpOk X pins H' X'.env.locals->(∃ m,s'.heap.Ns X'.env.locals m)->FlyB pl s'.heap x T (.ref Cc) .none->H' x=none->H' T=none->(∀ b,(b=x\/b=T)->(b∉X.ex->X.s₀.heap.get? b=none)/\b≠X'.env.locals/\b≠X.env.locals/\(∀ y c,X.env.cells.lookup y=some c->c≠b)/\∀ p∈X.pn++pins,p.1≠b)->Ec (.ref Cc) none H' ->
   notedBy (model X.prog X.w) X.A X'.env (fun e s''=>RR (.ref D2) (D+1) (.error e) s'') (.ref x) s':=by
  rw[henv]
  intro D2 x T Cc s' H' a1 a2 a3 a4 a5 a6 a7 a8
  exact hRE D2 (D+1) x T Cc s' H' a1 a2 a3 a4 a5 a6 a7 a8
 clear hRE
 have nDC:D≠D+1:=Nat.ne_of_lt (Nat.lt_succ_self _)
 have cellsNe:∀ b∈D::fp,∀ x c,X'.env.cells.lookup x=some c->c≠b:=fun b hb x c e=>(IC.ok.exf b (by rw[hex]; exact hb)).2 x c e
 have exfs:∀ b∈D::fp,b∉X'.fs:=fun b hb=>IC.ok.exfs b (by rw[hex]; exact hb)
 have locNe:∀ b∈D::fp,b≠X'.env.locals:=fun b hb=>(IC.ok.exf b (by rw[hex]; exact hb)).1
 have fpOf:∀ {H':Hp} {ps:List (Addr×Obj)} {b:Addr},b∈D::fp->H' b=none->(∀ p∈ps,p.1≠b)->FpOk X' ps H' b:=fun {H' ps b} hb hn hp=>
  ⟨hn,locNe b hb,exfs b hb,.inl (by rw[hex]; exact hb),cellsNe b hb,fun p hp'=>hp p (by rw[hpn] at hp'; exact hp')⟩
 have noCell:∀ (its:List Value) (n:Nat) (v:Option Value),(listObj its n).data≠.cell v:=fun its n v z=>by
  have z':Data.seq its.toArray n=Data.cell v:=z
  cases z'
 have st3:tn 0 h3:=T.keep _ _ _ st fun b hb u e=>by rw[<-hh3]; exact Heap.get?_push_of_some _ e
 have kp4:∀ b u,h3.get? b=some u->(pushCells (h3.push { cls:=.type "dict",data:=.dict #[] }) sc.names).get? b=some u:=fun b u e=>pushCells_keeps _ _ b u (Heap.get?_push_of_some _ e)
 have st4:tn 0 (pushCells (h3.push { cls:=.type "dict",data:=.dict #[] }) sc.names):=T.keep _ _ _ st3 fun b _ u e=>kp4 b u e
 obtain⟨W,⟨m0,w0⟩,turn⟩:=h
 have loop:codeAny (model X.prog X.w) X.A (.compLoop (.ListComp elt [⟨target,iter,ifs,0⟩] sc pos) 0 (.ref it) (.ref D) X'.env) (RR (.ref D) (D+1)) { s with heap:=pushCells (h3.push { cls:=.type "dict",data:=.dict #[] }) sc.names }:=by
  refine codeAny_compLoop_E (fun n s'=>∃ i σ' ys its k H',Inv X' [] σ' H' s'/\tn i s'.heap/\(∀ b∈fp,H' b=none)/\H' D=none/\Vals ys its/\s'.heap.get? D=some (listObj its k)/\ys.length<=sizeLine/\W i n σ' ys H') ?_ m0
   ⟨0,takeSt src σ,[],[],0,H,IC,st4,fun b hb=>(hf b hb).1,fD.1,.nil,kp4 _ _ eD3,Nat.zero_le _,w0⟩
  rintro n s5 ⟨i,σ5,ys,its,k,H5,I5,st5,fr5,nD5,rv5,e5,z5,w5⟩
  have I5p:=Inv.pinD I5 e5 nD5 (locNe D List.mem_cons_self) (exfs D List.mem_cons_self) (noCell its k)
  have fp5:∀ {H':Hp},(∀ b∈fp,H' b=none)->∀ b∈fp,FpOk X' [(D,listObj its k)] H' b:=fun hn b hb=>fpOf (List.mem_cons_of_mem _ hb) (hn b hb) fun p hp z=>by
   have q:p=(D,listObj its k):=by simpa using hp
   subst q
   have z':D=b:=z
   exact nDfp (by rw[z']; exact hb)
  rcases turn i n σ5 ys H5 w5 with ⟨stop,qn⟩ | ⟨go,zy,Nx,hNx,step⟩
  ·have tr:=T.done X' hP hw hK hcm i _ s5 σ5 H5 (fun _ _=>False) I5p (fp5 fr5) st5 stop
   rw[hA] at tr
   refine thn tr fun r s6 ⟨hr,I6⟩=>?_
   subst hr
   have p6:=I6.pin (D,listObj its k) (List.mem_append_right _ (List.mem_singleton.mpr rfl))
   have u6:=I6.base
   rw[hfs,hex,hH0,hs0] at u6
   have os6:s6.os=s.os:=by rw[I6.os,hs0]
   have J6:Inv X pins σ H5 s6:=Inv.call' (ch:=D::fp) I3 os6 u6 (by have q:=I6.hok; rw[hP,hw] at q; exact q) I6.bare fun b hb=>by
    obtain⟨f0,f1,f2,f3,f4,f5⟩:=hfD b hb
    exact⟨f3,f1,f4,f5⟩
   obtain⟨m6,n6,_⟩:=I6.loc
   rw[hC] at n6
   have nC:H5 (D+1)=none:=by rw[<-hC]; exact I6.free
   refine hRR D (D+1) s6 ys its k H5 J6 ⟨nD5,fD.2⟩ ⟨nC,?_⟩ nDC ⟨m6,n6⟩ rv5 p6.1 z5 qn
   have q:=I3.fpOk (H':=H5) (b:=D+1) (by show h3.objs.size<=D+1; rw[sz3]; exact Nat.le_refl _) nC
   exact q.2
  ·have tr:=T.item X' hP hw hK hcm i _ s5 σ5 H5 (fun _ _=>False) I5p (fp5 fr5) st5 go
   rw[hA] at tr
   refine thn tr fun r s6 ⟨u,hr,h6⟩=>?_
   subst hr
   refine thn h6 fun _ s7 ⟨x,H7,I7,r7,y7,st7,fr7⟩=>?_
   have I7':=I7.pinned (fp5 fr7) (T.obj _ _ st7)
   have ga:=hg' _ s7 σ5 H7 x u _ I7' r7 (step x H7 y7)
   rw[hP,hw,hA,hxe] at ga
   refine thn ga fun _ s8 ⟨σ8,H8,I8,q8⟩=>?_
   have ta:=hifs' _ s8 σ8 H8 _ I8 q8
   rw[hP,hw,hA,hxe] at ta
   refine thn ta fun ok s9 ⟨H9,I9,q9⟩=>?_
   have memD:((D,listObj its k):Addr×Obj)∈X'.pn++([(D,listObj its k)]++pinsAt fp s7.heap):=List.mem_append_right _ (List.mem_append_left _ (List.mem_singleton.mpr rfl))
   have memF:∀ b∈fp,∀ ob,s7.heap.get? b=some ob->((b,ob):Addr×Obj)∈X'.pn++([(D,listObj its k)]++pinsAt fp s7.heap):=fun b hb ob e=>List.mem_append_right _ (List.mem_append_right _ (mem_pinsAt hb e))
   cases ok with
   | false=>
    have q9':Nx σ8 ys H9:=q9
    obtain⟨m',hm,w9⟩:=hNx σ8 ys H9 q9'
    refine⟨m',hm,i+1,σ8,ys,its,k,H9,I9.pins_of (fun p hp=>nomatch hp),T.keep _ _ _ st7 fun b hb ob e=>(I9.pin _ (memF b hb ob e)).1,fun b hb=>?_,(I9.pin _ memD).2.1,rv5,(I9.pin _ memD).1,z5,w9⟩
    obtain⟨ob,e,_⟩:=T.obj _ _ st7 b hb
    exact (I9.pin _ (memF b hb ob e)).2.1
   | true=>
    have q9':te σ8 H9 fun y H4=>Nx σ8 (ys++[y]) H4:=q9
    have ea:=helt' _ s9 σ8 H9 _ (I9.wish _) q9'
    show wpAny (model X.prog X.w) X.A (eval elt X'.env) _ _ s9
    generalize hQQ:EP (X'.wish (xeComp pl X' Ec)) ([(D,listObj its k)]++pinsAt fp s7.heap) σ8 (fun y H4=>Nx σ8 (ys++[y]) H4)=QQ at ea
    have ea2:wpAny (model X.prog X.w) X.A (eval elt X'.env) QQ (xeComp pl X' Ec) s9:=by
     have z:wpAny (model X'.prog X'.w) X'.A (eval elt X'.env) QQ (xeComp pl X' Ec) s9:=ea
     rw[hP,hw,hA] at z
     exact z
    subst hQQ
    refine wpAny_mono ea2 (fun v s10 hv=>?_) (fun e s10 he=>?_)
    case refine_2=>
     obtain⟨x,Cc,T,H1,p1,p2,σ1,σ2,s1,H2,rfl,I1,Ia,F,g1,g2,n1,n2,q⟩:=he
     have u6:=Ia.base
     rw[hfs,hex,hH0,hs0] at u6
     have os6:s10.os=s.os:=by rw[Ia.os,hs0]
     have J6:Inv X pins σ H2 s10:=Inv.call' (ch:=D::fp) I3 os6 u6 (by have q:=Ia.hok; rw[hP,hw] at q; exact q) Ia.bare fun b hb=>by
      obtain⟨f0,f1,f2,f3,f4,f5⟩:=hfD b hb
      exact⟨f3,f1,f4,f5⟩
     obtain⟨m6,n6,_⟩:=Ia.loc
     rw[hC] at n6
     have nC:H2 (D+1)=none:=by rw[<-hC]; exact Ia.free
     have fC:FpOk X pins H2 (D+1):=I3.fpOk (H':=H2) (b:=D+1) (by show h3.objs.size<=D+1; rw[sz3]; exact Nat.le_refl _) nC
     have J1:Inv X pins σ H1 s1:=by
      have u1:=I1.base
      rw[hfs,hex,hH0,hs0] at u1
      exact Inv.call' (ch:=D::fp) I3 (by rw[I1.os,hs0]) u1 (by have q:=I1.hok; rw[hP,hw] at q; exact q) I1.bare fun b hb=>by
       obtain⟨f0,f1,f2,f3,f4,f5⟩:=hfD b hb
       exact⟨f3,f1,f4,f5⟩
     have fresh:∀ b,(b=x\/b=T)->s1.heap.get? b=none:=fun b hb=>by rcases hb with rfl | rfl <;> assumption
     refine hRE' D x T Cc s10 H2 J6 (by rw[hC]; exact fC) ⟨m6,by rw[hC]; exact n6⟩ F g1 g2 (fun b hb=>⟨fun hx=>?_,?_,?_,fun y c e z=>?_,fun p hp z=>?_⟩) q
     ·cases e:X.s₀.heap.get? b with
      | none=>rfl
      | some o=>
       obtain⟨o',e'⟩:=J1.base.there b o e hx
       rw[fresh b hb] at e'; cases e'
     ·rintro rfl
      obtain⟨m1,⟨o,es,ep,ho,_⟩,_⟩:=I1.loc
      rw[fresh _ hb] at ho; cases ho
     ·rintro rfl
      obtain⟨m1,⟨o,es,ep,ho,_⟩,_⟩:=J1.loc
      rw[fresh _ hb] at ho; cases ho
     ·obtain⟨v,o,ho,_⟩:=J1.cell y c e
      rw[z,fresh b hb] at ho; cases ho
     ·have:=(J1.pin p hp).1
      rw[z,fresh b hb] at this; cases this
    obtain⟨y,H10,I10w,r10,q10⟩:=hv
    have I10:=I10w.unwish
    have pD:=I10.pin _ memD
    have e10:s10.heap.get? D=some (listObj its k):=pD.1
    have hlen:=rv5.length
    refine call_meets F.slot_list_append ⟨_,e10,rfl⟩ F.entry_list_append (F.args_list_append_2 _ _) (PySem.list_append D its.toArray k v (by rw[List.size_toArray]; omega)) ⟨e10,?_⟩
    obtain⟨m',hm,w10⟩:=hNx σ8 (ys++[y]) H10 q10
    have up:=PySem.IsL.update e10 (fun xs=>xs.push v)
    have eqA:(its.toArray.push v)=(its++[v]).toArray:=by simp
    rw[eqA] at up
    have other:∀ b ob,b≠D->s10.heap.get? b=some ob->(s10.heap.update D (Obj.mapSeq fun xs=>xs.push v)).get? b=some ob:=fun b ob hb e=>(Heap.get?_update_other s10.heap _ (Ne.symm hb)).trans e
    have I11:=I10.pins_of (pins':=[]) (fun p hp=>nomatch hp)
    have I12:Inv X' [] σ8 H10 { s10 with heap:=s10.heap.update D (Obj.mapSeq fun xs=>xs.push v) }:=I11.turned (t':=s10.toks) (it:=D) (fun b ob hb e=>other b ob hb e) pD.2.1 (locNe D List.mem_cons_self) (.inl (by rw[hex]; exact List.mem_cons_self)) (cellsNe D List.mem_cons_self) (fun p hp=>by rw[hpn] at hp; exact nomatch hp)
    refine⟨m',hm,i+1,σ8,ys++[y],its++[v],_,H10,I12,T.keep _ _ _ st7 fun b hb ob e=>other b ob (fun z=>nDfp (by rw[<-z]; exact hb)) (I10.pin _ (memF b hb ob e)).1,fun b hb=>?_,pD.2.1,rv5.append (.cons r10 .nil),up,by rw[List.length_append,List.length_singleton]; omega,w10⟩
    obtain⟨ob,e,_⟩:=T.obj _ _ st7 b hb
    exact (I10.pin _ (memF b hb ob e)).2.1
 have loop':codeAny (model X.prog X.w) X.A (.compLoop (.ListComp elt [⟨target,iter,ifs,0⟩] sc pos) 0 (.ref it) (.ref D) (compEnvR sc (D+1) X.env)) (RR (.ref D) (D+1)) { s with heap:=pushCells (h3.push { cls:=.type "dict",data:=.dict #[] }) sc.names }:=by rw[<-henv]; exact loop
 show codeAny (model X.prog X.w) X.A (.compStart (.ListComp elt [⟨target,iter,ifs,0⟩] sc pos) 0 (.ref it) (.ref D) (compEnvR sc h3.objs.size X.env)) (RR (.ref D) h3.objs.size) { s with heap:=pushCells (h3.push { cls:=.type "dict",data:=.dict #[] }) sc.names }
 rw[sz3]
 exact codeAny_compStart_list loop' (T.self X.A 0 _ _ _ st4 loop')
end
section
variable {pl:Bool} {X:Cx} {elt target iter:Expr} {ifs:List Expr} {pos:Pos} {o sc:Scope} {N N':List Str} {src:List (Option Nat)} {wi:TI} {g:TG} {tt:TT} {te:TE}
theorem pe_compE {Ec:XK} (f:Framed X) (hxe:∀ (pins:List (Addr×Obj)) (σ:L2.St) (H:Hp) (s:Shared) (x T Cc:Addr) (fl:Value),Inv X pins σ H s->FlyB pl s.heap x T (.ref Cc) fl->H x=none->H T=none->X.s₀.heap.get? x=none->X.s₀.heap.get? T=none->Ec (.ref Cc) none H->X.xe (.ref x) s)
  (CS:CompScope o N sc N' src) (hi:PI X target iter wi) (hg:∀ C s₀ H₀ ex,PG (cxComp X N' sc C s₀ H₀ ex) target g) (hifs:∀ C s₀ H₀ ex,PIfs (cxComp X N' sc C s₀ H₀ ex) ifs tt) (helt:∀ C s₀ H₀ ex,PE (cxCompE pl X N' sc C s₀ H₀ ex Ec) elt te)
  (hc:X.calm=true:=by rfl) (ho:X.env.scope=o:=by rfl) (hN:X.N=N:=by rfl) (hs:∀ x,foldedSetIterable iter X.env x=pure x:=by intro _; rfl):PE X (.ListComp elt [⟨target,iter,ifs,0⟩] sc pos) (tComp wi g tt te src):=by
 intro pins s σ H Q I h
 rw[eval_ListComp]
 refine wpAny_comprehension_free (use:=none) rfl hs (closure_of I CS ho) CS.kind CS.loc (thn (hi pins s σ H _ I h) fun v s1 h1=>thn h1 fun itv s2 h2=>?_)
 obtain⟨it,fp,tn,J,H2,e,I2,T,st2,f2,q2⟩:=h2
 subst e
 refine comp_coreE (RR:=fun acc C=>compPost (model X.prog X.w) X.A X.xe none (EP X pins σ Q) acc C) hc CS ho hN hg hifs helt I2 T st2 f2 q2 ?_ ?_
 ·intro D C s' ys its n H' I' fD fC nDC ⟨m,hn⟩ rv e z q
  refine⟨m,hn,fun h' sb=>?_⟩
  have I1:=Inv.same I' fC sb
  have e':h'.get? D=some (listObj its n):=(sb.2 D nDC).trans e
  exact⟨.ref D,upd H' D (.lst ys),Inv.adopt I1 fD ⟨_,e'⟩ ⟨z,its,n,rv,e'⟩,rfl,q D fD.1⟩
 ·intro D C x T Cc s' H' I' fC ⟨m,hn⟩ F g1 g2 n1 q
  have fr:X.A.frames=some (X.env::X.outer):=by rw[<-f.stk]; exact I'.ok.frames
  have st:s'.heap.FunFrames X.base (X.env::X.outer):=by rw[<-f.stk]; exact I'.stack
  have n2:∀ b,(b=x\/b=T)->X.s₀.heap.get? b=none/\b≠C/\b≠X.env.locals/\(∀ y c,X.env.cells.lookup y=some c->c≠b)/\∀ p∈X.pn++pins,p.1≠b:=fun b hb=>⟨(n1 b hb).1 (by rw[f.ex]; simp),(n1 b hb).2⟩
  show wpAny (model X.prog X.w) X.A (noteFrame (.ref x) (compEnvR sc C X.env)) _ _ s'
  rw[noteFrame_congr (show (compEnvR sc C X.env).frame=X.env.frame from rfl)]
  refine wp_note fr st f.fr F fun h1 T1 c1 z1 F1=>?_
  have c1':Chg (frs X.stack) [x,T] s'.heap h1:=by rw[f.stk]; exact c1
  have I1:Inv X pins σ H' { s' with heap:=h1 }:=Inv.chg f.stk f.fr f.ex I' c1' (fun b hb=>by
   simp at hb
   exact⟨by rcases hb with rfl | rfl <;> assumption,(n2 b hb).1,(n2 b hb).2.2⟩)
  have g3:H' T1=none:=I'.hok.fresh z1
  have n3:X.s₀.heap.get? T1=none:=by
   cases e:X.s₀.heap.get? T1 with
   | none=>rfl
   | some o=>exact absurd (Heap.lt_size e) (Nat.not_lt.mpr (Nat.le_trans I'.sz z1))
  obtain⟨oC,es,ep,hoC,rC⟩:=id hn
  have Clt:C<s'.heap.objs.size:=Heap.lt_size hoC
  have CT1:T1≠C:=fun z=>absurd (z ▸ z1) (Nat.not_le.mpr Clt)
  obtain⟨sl,eC⟩:=c1.slot C oC hoC (fun z=>by
   simp at z
   rcases z with rfl | rfl
   ·exact (n2 _ (.inl rfl)).2.1 rfl
   ·exact (n2 _ (.inr rfl)).2.1 rfl)
  refine⟨m,⟨_,es,ep,eC,rC⟩,fun h2 sb cenv _=>?_⟩
  have fC1:FpOk X pins H' C:=fC
  have I2:Inv X pins σ H' { s' with heap:=h2 }:=Inv.same (s:={ s' with heap:=h1 }) I1 fC1 sb
  have F2:FlyB pl h2 x T1 (.ref Cc) (rawInt X.env.locals):=F1.keeps fun b o hb e=>(sb.2 b (by
   rcases hb with rfl | rfl
   ·exact (n2 _ (.inl rfl)).2.1
   ·exact CT1)).trans e
  obtain⟨oe,vs,oT,ts,k1,k2,k3,k4,k5,k6,k7,k8,k9⟩:=id F2
  unfold PySem.passOn
  refine wpAny_bind (wpAny_field (s:={ s' with heap:=h2 }) k1 k3 k4 ?_)
  rw[if_neg (show ¬ ((Value.ref T1 == Value.none)=true) from by simp)]
  have step:wpAny (model X.prog X.w) X.A (setFlight (.ref x) cenv.frame) (fun _ s3=>X.xe (.ref x) s3) X.xe { s' with heap:=h2 }:=by
   unfold setFlight
   refine wpAny_bind (wpAny_field (s:={ s' with heap:=h2 }) k1 k3 k4 ?_)
   rw[if_pos (show (Value.ref T1 != Value.none)=true from by simp)]
   have lt:=(Array.getElem?_eq_some_iff.mp k8).1
   have hd:=Obj.data_mapFields k7 (·.setIfInBounds 3 (cenv.frame.elim Value.none fun f=>rawInt f))
   refine wpAny_setField (s:={ s' with heap:=h2 }) k6 k7 lt ?_
   have I3:Inv X pins σ H' { s' with heap:=h2.update T1 (Obj.mapFields (·.setIfInBounds 3 (cenv.frame.elim Value.none fun f=>rawInt f))) }:=Inv.chg (s1:={ s' with heap:=h2 }) f.stk f.fr f.ex I2 (ch:=[T1]) Chg.upd (fun b hb=>by
    simp at hb
    subst hb
    have q:=I'.fpOk z1 g3
    exact⟨g3,n3,q.2.1,q.2.2.2.2.1,q.2.2.2.2.2⟩)
   exact hxe pins σ H' _ x T1 Cc (cenv.frame.elim Value.none fun f=>rawInt f) I3 ⟨oe,vs,_,_,by rw[Heap.get?_update_ne _ _ _ _ (Ne.symm k5)]; exact k1,k2,k3,k4,k5,Heap.get?_update_self _ k6 (Obj.isFreed_of_fields hd),hd,by simp[lt],k9⟩ g1 g3 (n2 _ (.inl rfl)).1 n3 q
  first
   | exact wpAny_bind (wpAny_pure (wpAny_bind (wpAny_mono step (fun _ _ h=>wpAny_throw h) fun _ _ h=>h)))
   | exact wpAny_bind (wpAny_mono step (fun _ _ h=>wpAny_throw h) fun _ _ h=>h)
end
section
variable {pl:Bool} {P:Program} {w:World} {K:PySem.W.Frag} {mg:Str->Option Value} {base:Heap} {N:List Str} {qual:Str} {scope:Scope} {f:Addr} {cd:Value} {A:Around} {outer:List Env} {s₀:Shared} {H₀:Hp} {E₀:XK}
theorem xe_comp {Ec:XK} (hE:∀ c d H,Ec c d H->E₀ c d H) (pins:List (Addr×Obj)) (σ:L2.St) (H:Hp) (s:Shared) (x T Cc:Addr) (fl:Value) (I:Inv (cxB pl P w K mg base N qual scope f cd A outer s₀ H₀ E₀) pins σ H s) (F:FlyB pl s.heap x T (.ref Cc) fl) (g1:H x=none) (g2:H T=none)
  (n1:(cxB pl P w K mg base N qual scope f cd A outer s₀ H₀ E₀).s₀.heap.get? x=none) (n2:(cxB pl P w K mg base N qual scope f cd A outer s₀ H₀ E₀).s₀.heap.get? T=none) (q:Ec (.ref Cc) none H):(cxB pl P w K mg base N qual scope f cd A outer s₀ H₀ E₀).xe (.ref x) s:=
 xe_flyA I F g1 g2 n1 n2 (hE _ _ _ q)
end
end L3
namespace L3
open PySem PySem.Spec PyProof.Rows L2
section
variable {prog:Program} {w:World} {A:Around} {E:Value->Shared->Prop} {env:Env}
variable {nm q:Str} {C N:Addr} {bs bm:List Value} {hdct:Bool} {sn:List Str} {sub:List Value} {ab:Bool} {col:Option Bool} {dd:Option Addr} {k0 k1 k2 k3 k5:Option Value} {newId:String}
theorem entry_unchain:entryFor table "proto.unchain" = some Builtin.«proto.unchain»:=entryFor_of_tree (by kernel_rfl)
theorem wpAny_unchain {s:Shared} {e y:Addr} {oy:Obj} {vy:Array Value} {Q:Value->Shared->Prop} (hy:s.heap.get? y=some oy) (hd:oy.data=.fields vy) (h2:vy[2]?=some .none) (hQ:Q .none s) :
  wpAny (model prog w) A (runValue (.builtin "proto.unchain" ⟨[.ref e,.ref y,.ref y,.bool false],[]⟩)) Q E s:=by
 refine wpAny_runValue (codeAny_of_tree ?_)
 show wpAny _ _ (match entryFor table "proto.unchain" with | some b=>b ⟨[.ref e,.ref y,.ref y,.bool false],[]⟩ | none=>unsupported ((withoutEnding? "proto.unchain" "#data").getD "proto.unchain")) _ _ s
 rw[entry_unchain]
 show wpAny _ _ (field (.ref y) 2 >>= _) _ _ s
 refine wpAny_bind (wpAny_field hy hd h2 ?_)
 rw[if_pos (show ((Value.none == Value.none)=true) from rfl)]
 exact wpAny_pure hQ
theorem wpAny_raiseStmt_from {s:Shared} {x:Sem Value} {pos:Pos} {y:Addr} {Q:Flow->Shared->Prop} (hbase:bm.contains (.type "BaseException")=true) (hh:A.handled=some (.ref y))
  (h:wpAny (model prog w) A x (fun v s₁=>∃ e t oy vy,v=.ref e/\s₁.heap.get? C=some (excClassObj nm q C N bs bm hdct sn sub ab col dd k0 k1 k2 k3 k5 newId) /\
   s₁.heap.get? e=some { cls:=.ref C,data:=.fields #[.ref t,.none,.none,.none,.bool false,.none] }/\C≠e/\y≠e/\s₁.heap.get? y=some oy/\oy.data=.fields vy/\vy[2]?=some .none /\
   ∀ h':Heap,(∀ b o,b≠e->s₁.heap.get? b=some o->h'.get? b=some o)->h'.get? e=some { cls:=.ref C,data:=.fields #[.ref t,.none,.ref y,.none,.bool true,.none] }->h'.objs.size=s₁.heap.objs.size->E (.ref e) { s₁ with heap:=h' }) E s) :
  wpAny (model prog w) A (raiseStmt env (some x) (some (do let v ← (pure .none:Sem Value); standAt pos; pure v))) Q E s:=by
 have hcB:(Value.ref C::bm).contains (.type "BaseException")=true:=by rw[List.contains_cons,hbase,Bool.or_true]
 unfold raiseStmt
 refine wpAny_bind (wpAny_mono h (fun v s₁ h₁=>?_) fun _ _ x=>x)
 obtain⟨e,t,oy,vy,rfl,hC,he,nC,ny,hy,hyd,hy2,hE⟩:=h₁
 obtain⟨hp,g,d,tk,os⟩:=s₁
 repeat (first | with_reducible refine wpAny_loadPart_at he ?_ | with_reducible refine wpAny_loadPart_at hC ?_ | (with_reducible refine wpAny_isSubtype_exc hC ?_; rw[hcB]) | wp_step)
 have keep:∀ b o,b≠e->hp.get? b=some o->((hp.update e (Obj.mapFields fun x=>x.setIfInBounds 3 Value.none)).update e (Obj.mapFields fun x=>x.setIfInBounds 4 (Value.bool true))).get? b=some o:=fun b o nb z=>by
  rw[Heap.get?_update_ne _ _ _ _ nb,Heap.get?_update_ne _ _ _ _ nb]; exact z
 have he1:=Heap.get?_update_self (Obj.mapFields fun x=>x.setIfInBounds 3 Value.none) he rfl
 have he2:=Heap.get?_update_self (Obj.mapFields fun x=>x.setIfInBounds 4 (Value.bool true)) he1 rfl
 have hC2:=keep C _ nC hC
 have hy2':=keep y _ ny hy
 have hz:((hp.update e (Obj.mapFields fun x=>x.setIfInBounds 3 Value.none)).update e (Obj.mapFields fun x=>x.setIfInBounds 4 (Value.bool true))).objs.size=hp.objs.size:=by rw[Heap.size_update,Heap.size_update]
 have he3:((hp.update e (Obj.mapFields fun x=>x.setIfInBounds 3 Value.none)).update e (Obj.mapFields fun x=>x.setIfInBounds 4 (Value.bool true))).get? e=some { cls:=.ref C,data:=.fields #[.ref t,.none,.none,.none,.bool true,.none] }:=he2
 generalize ((hp.update e (Obj.mapFields fun x=>x.setIfInBounds 3 Value.none)).update e (Obj.mapFields fun x=>x.setIfInBounds 4 (Value.bool true)))=h2 at keep hC2 hy2' hz he3 ⊢
 clear he1 he2
 repeat (first | with_reducible refine wpAny_loadPart_at he3 ?_ | with_reducible refine wpAny_loadPart_at hC2 ?_ | (with_reducible refine wpAny_isSubtype_exc hC2 ?_; rw[hcB]) | wp_step)
 unfold raiseNew
 refine wpAny_bind (wpAny_handled ?_)
 rw[hh]
 have ne:(Value.ref y != Value.ref e)=true:=by simp[ny]
 have up:wpAny (model prog w) A (setField (.ref e) 2 (.ref y)) (fun _ s3=>wpAny (model prog w) A (throw (Value.ref e):Sem Flow) Q E s3) E { heap:=h2,gens:=g,drawn:=d,toks:=tk,os:=os }:=by
  refine wpAny_setField he3 rfl (show 2<6 by decide) (wpAny_throw (hE _ (fun b o nb z=>?_) (Heap.get?_update_self _ he3 rfl) ?_))
  ·rw[Heap.get?_update_ne _ _ _ _ nb]; exact keep b o nb z
  ·rw[Heap.size_update]; exact hz
 dsimp only
 rw[if_pos ne]
 first
  | exact wpAny_bind (wpAny_bind (wpAny_holding (wpAny_unchain hy2' hyd hy2 up)))
  | exact wpAny_bind (wpAny_holding (wpAny_unchain hy2' hyd hy2 (wpAny_bind up)))
  | exact wpAny_bind (wpAny_bind (wpAny_holding (wpAny_unchain hy2' hyd hy2 (wpAny_mono up (fun _ _ z=>z) fun _ _ z=>z))))
end
end L3
namespace L3
open PySem PySem.Spec PyProof.Rows L2
section
variable {prog:Program} {w:World} {A:Around} {E:Value->Shared->Prop} {s:Shared} {env:Env}
variable {nm q:Str} {C N:Addr} {bs bm bmB:List Value} {hdct:Bool} {sn:List Str} {sub:List Value} {ab:Bool} {col:Option Bool} {dd:Option Addr} {k0 k1 k2 k3 k5:Option Value} {B newId initId:String}
theorem wpAny_Raise_call_from (F:ExcBaseFacts B newId initId bmB) {mN:Str->Option Value} {x:Str} {np cpos pos np2:Pos} {ck:Nat} {args:List Expr} {y:Addr} {Q:Flow->Shared->Prop}
  (hbase:bm.contains (.type "BaseException")=true) (hh:A.handled=some (.ref y)) (hplain:(backTo cpos (starEach args env)).any (·.1)=false) (hni:mN "__init__" = none)
  (h:wpAny (model prog w) A (eval (.Name x np) env) (fun f s₁=>f=.ref C/\wpAny (model prog w) A (evalArgs (.ref C) true (backTo cpos (starEach args env)) [])
   (fun a s₂=>∃ oy vy,a.kw=[]/\a.pos.length<=sizeLine/\s₂.heap.get? C=some (excClassObj nm q C N bs bm hdct sn sub ab col dd k0 k1 k2 k3 k5 newId)/\s₂.heap.Ns N mN/\OwnTail s₂.heap bmB bm/\s₂.heap.get? y=some oy/\oy.data=.fields vy/\vy[2]?=some .none /\
    ∀ h1 e,Heap.MadeExcOf s₂.heap h1 e (.ref C) a.pos->∀ (t:Addr) (h':Heap),(∀ b o,b≠e->h1.get? b=some o->h'.get? b=some o)->h'.get? e=some { cls:=.ref C,data:=.fields #[.ref t,.none,.ref y,.none,.bool true,.none] }->h'.objs.size=h1.objs.size->E (.ref e) { s₂ with heap:=h' }) E s₁) E s) :
  wpAny (model prog w) A (exec (.Raise (some (.Call (.Name x np) args [] cpos)) (some (.Constant .none ck np2)) pos) env) Q E s:=by
 rw[arm_exec_Raise]
 show wpAny _ _ (do standAt pos; raiseStmt env (some (do let v ← eval (.Call (.Name x np) args [] cpos) env; standAt pos; pure v)) (some (do let v ← (pure .none:Sem Value); standAt pos; pure v))) _ _ s
 refine wpAny_bind (wpAny_standAt (wpAny_raiseStmt_from (C:=C) (nm:=nm) (q:=q) (N:=N) (bs:=bs) (bm:=bm) (hdct:=hdct) (sn:=sn) (sub:=sub) (ab:=ab) (col:=col) (dd:=dd) (k0:=k0) (k1:=k1) (k2:=k2) (k3:=k3) (k5:=k5) (newId:=newId) hbase hh (wpAny_bind (wpAny_mono (wpAny_Call_ofName (wpAny_mono h (fun f s₁ h₁=>?_) fun _ _ x=>x)) (fun v s₃ h₃=>wpAny_bind (wpAny_standAt (wpAny_pure h₃))) fun _ _ x=>x))))
 obtain⟨rfl,h₁⟩:=h₁
 unfold callWith
 refine wpAny_bind (wpAny_holding (wpAny_mono h₁ (fun a s₂ h₂=>wpAny_bind (wpAny_standAt ?_)) fun _ _ x=>x))
 obtain⟨apos,akw⟩:=a
 obtain⟨oy,vy,hkw,hlen,hC,hn,T,hy,hyd,hy2,h₂⟩:=h₂
 obtain rfl:akw=[]:=hkw
 obtain⟨hp,g,d,tk,os⟩:=s₂
 simp only[hplain]
 refine wpAny_bind (wpAny_keeperOf_exc hC ?_)
 refine wpAny_bind (wpAny_call_exc_subT (hrest:=hlen) F T hC hn hni fun h' e hm=>wpAny_bind (wpAny_holding (wpAny_point (wpAny_pure ?_))))
 obtain⟨t,ht,_,_⟩:=hm.there
 have new:=hm.new
 exact⟨e,t,oy,vy,rfl,hm.keeps _ _ hC,ht,fun z=>(by rw[z,new] at hC; cases hC),fun z=>(by rw[z,new] at hy; cases hy),hm.keeps _ _ hy,hyd,hy2,fun h3 a b c=>h₂ h' e hm t h3 a b c⟩
end
abbrev Cx.handR (X:Cx) (y:Addr) (oe:Obj):Cx:={ X with A:=X.A.mark (some (.ref y)),calm:=false,pn:=(y,oe)::X.pn }
section
variable {X:Cx} {x:Str} {C y:Addr} {oe:Obj} {vy:Array Value} {e:Expr} {t:TA} {np cpos pos np2:Pos} {ck:Nat} {E₀:XK}
theorem ps_raiseFrom (hd0:oe.data=.fields vy) (h2:vy[2]?=some .none) (hg:Gl X x) (hm:X.mg x=some (.ref C)) (c:XCls X.K C) (ha:PA (Cx.handR X y oe) [e] t)
  (hxe:∀ pins σ H s h1 x' vs t' h',Inv (Cx.handR X y oe) pins σ H s->Heap.MadeExcOf s.heap h1 x' (.ref C) vs->(∀ b o,b≠x'->h1.get? b=some o->h'.get? b=some o)->h'.get? x'=some { cls:=.ref C,data:=.fields #[.ref t',.none,.ref y,.none,.bool true,.none] }->h'.objs.size=h1.objs.size->E₀ (.ref C) none H->X.xe (.ref x') { s with heap:=h' })
  (hs:starEach [e] X.env=[(false,eval e X.env)]:=by rfl) (hd:(x == ("__debug__" : Str))=false:=by decide):PS (Cx.handR X y oe) (.Raise (some (.Call (.Name x np) [e] [] cpos)) (some (.Constant .none ck np2)) pos) (sRaise C t E₀):=by
 intro pins s σ H D I h
 obtain⟨bm,N,nm,q,bs,hdct,sn,sub,ab,col,dd,k0,k1,k2,k3,k5,mN,hC,hN,hni,T⟩:=c.obj I.mod.kin
 refine wpAny_Raise_call_from (C:=C) (nm:=nm) (q:=q) (N:=N) (bs:=bs) (bm:=bm) (hdct:=hdct) (sn:=sn) (sub:=sub) (ab:=ab) (col:=col) (dd:=dd) (k0:=k0) (k1:=k1) (k2:=k2) (k3:=k3) (k5:=k5) PySem.F.excBase_ValueError (mN:=mN) (y:=y) (T.hasType rfl) rfl (by show (backTo cpos (starEach [e] X.env)).any (·.1)=false; rw[hs]; rfl) hni (ld_glob (X:=Cx.handR X y oe) I hg hm ⟨rfl,?_⟩ hd)
 have h2':=ha cpos pins s σ H _ I h
 have hs':starEach [e] (Cx.handR X y oe).env=[(false,eval e (Cx.handR X y oe).env)]:=hs
 rw[hs'] at h2' ⊢
 refine Calls.evalArgs_plain (thn h2' fun us s2 ⟨vs,H2,I2,r2,hl,q2⟩=>?_)
 have hpin:=I2.pin (y,oe) (by simp)
 exact⟨oe,vy,rfl,by rw[<-r2.length]; exact hl,I2.bk _ _ hC,hN.keeps I2.bk,T.keeps I2.bk,hpin.1,hd0,h2,fun h1 x' hx t' h' a b c=>hxe pins σ H2 s2 h1 x' us t' h' I2 hx a b c q2⟩
theorem Inv.ofHandR {pins:List (Addr×Obj)} {σ:L2.St} {H:Hp} {s:Shared} (hh:X.A.handled=none) (I:Inv (Cx.handR X y oe) pins σ H s):Inv X pins σ H s:=
 ⟨⟨I.ok.mod,I.ok.kind,I.ok.glob,I.ok.blt,I.ok.above,I.ok.inj,I.ok.has,I.ok.cab,fun _=>hh,I.ok.frames,I.ok.stk,I.ok.exf,I.ok.bs,I.ok.bsz,I.ok.noex,I.ok.exfs,I.ok.funs,I.ok.frf⟩,I.os,I.bare,I.base,I.loc,I.cell,I.free,I.freeC,fun p hp=>I.pin p (List.mem_cons_of_mem _ hp),I.hok,I.len⟩
theorem Inv.toHandR {pins:List (Addr×Obj)} {σ:L2.St} {H:Hp} {s:Shared} (I:Inv X pins σ H s) (hy:s.heap.get? y=some oe/\H y=none/\y≠X.env.locals/\y∉X.fs/\∀ v,oe.data≠.cell v):Inv (Cx.handR X y oe) pins σ H s:=
 ⟨⟨I.ok.mod,I.ok.kind,I.ok.glob,I.ok.blt,I.ok.above,I.ok.inj,I.ok.has,I.ok.cab,fun z=>(nomatch z),I.ok.frames,I.ok.stk,I.ok.exf,I.ok.bs,I.ok.bsz,I.ok.noex,I.ok.exfs,I.ok.funs,I.ok.frf⟩,I.os,I.bare,I.base,I.loc,I.cell,I.free,I.freeC,fun p hp=>by
  rcases List.mem_append.mp hp with z | z
  ·rcases List.mem_cons.mp z with rfl | z
   ·exact hy
   ·exact I.pin p (List.mem_append_left _ z)
  ·exact I.pin p (List.mem_append_right _ z),I.hok,I.len⟩
end
section
variable {P:Program} {w:World} {K:PySem.W.Frag} {mg:Str->Option Value} {base:Heap} {N:List Str} {qual:Str} {scope:Scope} {f:Addr} {cd:Value} {A:Around} {outer:List Env} {s₀:Shared} {H₀:Hp} {E₀:XK}
theorem xe_newR (hca:(cxB false P w K mg base N qual scope f cd A outer s₀ H₀ E₀).A.handled=none) {pins:List (Addr×Obj)} {σ:L2.St} {H:Hp} {s:Shared} {h1 h':Heap} {x C y t:Addr} {oe:Obj} {vs:List Value} (I0:Inv (Cx.handR (cxB false P w K mg base N qual scope f cd A outer s₀ H₀ E₀) y oe) pins σ H s) (hx:Heap.MadeExcOf s.heap h1 x (.ref C) vs)
  (kp:∀ b o,b≠x->h1.get? b=some o->h'.get? b=some o) (hn:h'.get? x=some { cls:=.ref C,data:=.fields #[.ref t,.none,.ref y,.none,.bool true,.none] }) (hz:h'.objs.size=h1.objs.size)
  (q:E₀ (.ref C) none H):(cxB false P w K mg base N qual scope f cd A outer s₀ H₀ E₀).xe (.ref x) { s with heap:=h' }:=by
 have I:Inv (cxB false P w K mg base N qual scope f cd A outer s₀ H₀ E₀) pins σ H s:=Inv.ofHandR hca I0
 have kp2:∀ b o,s.heap.get? b=some o->h'.get? b=some o:=fun b o e=>kp b o (fun z=>by rw[z,hx.new] at e; cases e) (hx.keeps b o e)
 have I1:Inv (cxB false P w K mg base N qual scope f cd A outer s₀ H₀ E₀) pins σ H { s with heap:=h' }:=I.kept (t':=s.toks) kp2
 have nx:s₀.heap.get? x=none:=by
  cases e:s₀.heap.get? x with
  | none=>rfl
  | some o=>
   obtain⟨o',e'⟩:=I.base.there x o e (by show x∉([]:List Addr); simp)
   rw[hx.new] at e'; cases e'
 have hHx:H x=none:=by
  cases e:H x with
  | none=>rfl
  | some u=>
   have:∃ ob,s.heap.get? x=some ob:=ob_there (I.hok x u e)
   obtain⟨ob,eo⟩:=this
   rw[hx.new] at eo; cases eo
 refine wp_leave0 (pl:=false) (base:=base) (L:=s₀.heap.objs.size) I1.ok.frames I1.stack rfl hn rfl rfl (fun z=>nomatch z) fun h2 T' c z F'=>?_
 have nL:s₀.heap.get? s₀.heap.objs.size=none:=by
  cases e:s₀.heap.get? s₀.heap.objs.size with
  | none=>rfl
  | some o=>exact absurd (Heap.lt_size e) (Nat.lt_irrefl _)
 have nT':s₀.heap.get? T'=none:=by
  cases e:s₀.heap.get? T' with
  | none=>rfl
  | some o=>exact absurd (Heap.lt_size e) (Nat.not_lt.mpr (Nat.le_trans I1.sz z))
 refine⟨x,C,T',H,rfl,I1.os,I1.bare,Un.chg (L:=s₀.heap.objs.size) I1.base c nL (fun b hb=>?_),HOk.chg I1.hok c (fun b hb=>I1.stkFree b hb) (fun b hb=>?_),nx,nT',F',hHx,I1.hok.fresh z,q⟩
 ·simp at hb; rw[hb]; exact nx
 ·simp at hb; rw[hb]; exact hHx
end
def trySt (K:PySem.W.Frag) (D:Addr) (th:TS) (De:Ends):L2.St->XK:=fun σ c _ H=>∃ C,c=.ref C/\XCls K C/\XAttr K C/\Under K C D/\th { nx:=De.nx,rt:=De.rt } σ H
def PassesS (CX:CXT) (X:Cx) (E:L2.St->XK):Prop:=∀ (pins:List (Addr×Obj)) (σ:L2.St) (H:Hp) (s:Shared) (e:Value) (s':Shared),Inv X pins σ H s->CX X.stack H s (E σ) e s'->X.xe e s'
section
variable {X:Cx} {CX:CXT} {k:Nat} {f C:Addr} {fd:FuncData} {ps:List Str} {sp:Sp} {ds:List Value} {dvs:List V} {E:L2.St->XK} {m:Str} {pos apos:Pos} {e o:Expr} {es:List Expr} {ta:TE} {t:TA}
theorem runs_at {pins:List (Addr×Obj)} {σ:L2.St} {H:Hp} {s:Shared} {Q:VK} {us:List Value} {vs:List V} (G:FnOk X.prog X.w X.K X.mg X.base CX k f fd ps sp) (room:Room k X.A) (bd:Binds X.K fd ps ds) (dv:Vals dvs ds) (out:PassesS CX X E)
  (I:Inv X pins σ H s) (rel:Vals vs us) (h:sp (vs++dvs) H Q (E σ)):wpAny (model X.prog X.w) X.A (call (.ref f) us) (EP X pins σ Q) X.xe s:=by
 have both:=rel.append dv
 refine wpAny_call (codeAny_mono (G.run X.A X.stack s H ⟨us,[]⟩ _ _ Q (E σ) room I.env0 (bd s us I.kIn (by rw[<-both.length]; exact G.len _ _ _ _ h)) both h) fun res s1 post=>?_)
 match res,post with
 | .error x,post=>exact out pins σ H s x s1 I post
 | .ok (.ret _),post=>exact I.after post
 | .ok .next,post=>exact post.elim
 | .ok .brk,post=>exact post.elim
 | .ok .cont,post=>exact post.elim
theorem pe_methS {plain:Sem Bool} (ho:PE X o ta) (cl:Cls X.K C) (mt:Meth X.K C m f) (G:FnOk X.prog X.w X.K X.mg X.base CX k f fd ps sp) (room:Room k X.A) (bd:Binds X.K fd ps ds) (dv:Vals dvs ds) (out:PassesS CX X E) (args:PA X (e::es) t)
  (h1:starEach (e::es) X.env=(false,eval e X.env)::starEach es X.env:=by rfl) (h2:(backTo pos (starEach es X.env)).any (·.1)=false:=by rfl)
  (h3:eval (.Call (.Attribute o m apos) (e::es) [] pos) X.env=(eval o X.env >>= fun ov=>standAt apos.atName >>= fun _=>holding [ov] (getMethod ov m plain) >>= fun p=>callWith pos p.1 p.2 (backTo pos (starEach (e::es) X.env)) (backToKw pos (keywordEach [] X.env))):=by rfl) :
  PE X (.Call (.Attribute o m apos) (e::es) [] pos) (fun σ H Q=>tMeth C m sp dvs (E σ) ta t σ H Q):=fun pins s σ H Q I h=>by
 refine PySem.W.methodCall_KW (pl:=plain) (thn (ho pins s σ H _ I h) fun u s1 ⟨x,H1,I1,rx,a,dx,fs,ex,ea,nl,q⟩=>?_) h3
 subst ex
 cases (show u=Value.ref a from rx)
 refine getmeth_ok I1 ea cl mt nl (PySem.W.callWith_K (first:=[.ref a]) (h₀:=X.base) I.ok.mod.kin mt.kp (thn (args pos pins s1 σ H1 _ I1 q) fun us s2 ⟨vs,H2,I2,r,q2⟩=>⟨I2.kIn,?_⟩) h1 h2)
 exact runs_at (us:=.ref a::us) (vs:=.ref a::vs) G room bd dv out I2 (.cons rfl r) q2
end
section
variable {X:Cx} {body suite:List Stmt} {b₀:Stmt} {cn:Str} {D:Addr} {p hpos pos:Pos} {tb:Ends->TS} {th:TS}
theorem handledR {pins:List (Addr×Obj)} {σ:L2.St} {H:Hp} {s:Shared} {De:Ends} {x T C:Addr} (hstk:X.stack=X.env::X.outer) (hfr:X.env.frame=some X.env.locals) (hnoex:X.ex=[])
  (hg:Gl X cn) (hm:X.mg cn=some (.ref D)) (cD:XCls X.K D) (hca:X.A.handled=none) (hp:∀ y,PassesOwnAt (model X.prog X.w) (X.A.mark (some y)) X.A X.env X.xe) (hh:∀ y oe vy,oe.data=.fields vy->vy[2]?=some .none->PSs (Cx.handR X y oe) (b₀::suite) th) (hd:(cn == ("__debug__" : Str))=false)
  (I:Inv X pins σ H s) (F:FlyB true s.heap x T (.ref C) .none) (g1:H x=none) (g2:H T=none) (n1:∀ b,(b=x\/b=T)->X.s₀.heap.get? b=none) (n2:∀ b,(b=x\/b=T)->b≠X.env.locals/\(∀ y c,X.env.cells.lookup y=some c->c≠b)/\∀ p∈X.pn++pins,p.1≠b)
  (q:∃ C',Value.ref C=.ref C'/\XCls X.K C'/\XAttr X.K C'/\Under X.K C' D/\th { nx:=De.nx,rt:=De.rt } σ H):xeTry X [.ExceptHandler (some (.Name cn p)) none (b₀::suite) hpos] pins De (.ref x) s:=by
 obtain⟨C',e,cC,aC,un,q⟩:=q
 cases e
 have fr:X.A.frames=some (X.env::X.outer):=by rw[<-hstk]; exact I.ok.frames
 have st:s.heap.FunFrames X.base (X.env::X.outer):=by rw[<-hstk]; exact I.stack
 have go:∀ {s1:Shared} {h2:Heap} {ch:List Addr},Inv X pins σ H s1->Chg (frs X.stack) ch s1.heap h2->(∀ b∈ch,H b=none/\X.s₀.heap.get? b=none/\b≠X.env.locals/\(∀ y c,X.env.cells.lookup y=some c->c≠b)/\∀ p∈X.pn++pins,p.1≠b)->Inv X pins σ H { s1 with heap:=h2 }:=fun {s1 h2 ch} I1 c hc=>by
  have fs:frs X.stack=X.env.locals::frs X.outer:=by rw[hstk]; show (X.env::X.outer).filterMap (·.frame)=_; rw[List.filterMap_cons,hfr]; rfl
  rw[fs] at c
  obtain⟨m,hn,hl⟩:=id I1.loc
  have nch:X.env.locals∉ch:=fun z=>(hc _ z).2.2.1 rfl
  have keepNs:h2.Ns X.env.locals m:=by
   obtain⟨o,es,ep,ho,r⟩:=hn
   obtain⟨sl,e⟩:=c.slot _ o ho nch
   exact⟨_,es,ep,e,r⟩
  have keepCell:∀ y cc v,X.env.cells.lookup y=some cc->s1.heap.IsCell cc v->h2.IsCell cc v:=fun y cc v e z=>by
   obtain⟨o,ho,hd⟩:=z
   obtain⟨sl,e2⟩:=c.slot _ o ho (fun z=>(hc _ z).2.2.2.1 y cc e rfl)
   exact⟨_,e2,hd⟩
  refine⟨I1.ok,I1.os,I1.bare,Un.chg (L:=X.env.locals) (by rw[<-hnoex]; exact I1.base) c ?_ (fun b hb=>(hc b hb).2.1) |> fun u=>by rw[hnoex]; exact u,⟨m,keepNs,fun j y v e1 e2 e3=>?_⟩,fun y cc e=>?_,I1.free,I1.freeC,fun p hp=>?_,HOk.chg I1.hok c (fun b hb=>?_) (fun b hb=>(hc b hb).1),I1.len⟩
  ·cases e:X.s₀.heap.get? X.env.locals with
   | none=>rfl
   | some o=>exact absurd (Heap.lt_size e) (Nat.not_lt.mpr I1.ok.above)
  ·obtain⟨u,r,l⟩:=hl j y v e1 e2 e3
   refine⟨u,r,?_⟩
   rcases l with l | ⟨k,cc,e,z⟩
   ·exact .inl l
   ·exact .inr ⟨k,cc,e,keepCell y cc _ e z⟩
  ·obtain⟨v,z⟩:=I1.cell y cc e
   exact⟨v,keepCell y cc _ e z⟩
  ·obtain⟨e,n,ne,nf,d⟩:=I1.pin p hp
   exact⟨c.keep _ _ e (fun z=>(List.mem_cons.mp z).elim ne nf) (fun z=>(hc _ z).2.2.2.2 p hp rfl),n,ne,nf,d⟩
  ·have:=I1.stkFree b (by rw[fs]; exact hb)
   exact this
 refine wp_note fr st hfr F fun h1 T1 c1 z1 F1=>?_
 have new1:∀ {s1:Shared} {b:Addr},Inv X pins σ H s1->s1.heap.objs.size<=b->H b=none/\X.s₀.heap.get? b=none/\b≠X.env.locals/\(∀ y c,X.env.cells.lookup y=some c->c≠b)/\∀ p∈X.pn++pins,p.1≠b:=fun {s1 b} I1 hb=>by
  have f:=I1.fpOk hb (I1.hok.fresh hb)
  refine⟨f.1,?_,f.2.1,f.2.2.2.2.1,f.2.2.2.2.2⟩
  cases e:X.s₀.heap.get? b with
  | none=>rfl
  | some o=>exact absurd (Heap.lt_size e) (Nat.not_lt.mpr (Nat.le_trans I1.sz hb))
 have fx:H x=none/\X.s₀.heap.get? x=none/\x≠X.env.locals/\(∀ y c,X.env.cells.lookup y=some c->c≠x)/\∀ p∈X.pn++pins,p.1≠x:=⟨g1,n1 x (.inl rfl),n2 x (.inl rfl)⟩
 have fT:H T=none/\X.s₀.heap.get? T=none/\T≠X.env.locals/\(∀ y c,X.env.cells.lookup y=some c->c≠T)/\∀ p∈X.pn++pins,p.1≠T:=⟨g2,n1 T (.inr rfl),n2 T (.inr rfl)⟩
 have I1:Inv X pins σ H { s with heap:=h1 }:=go I (by rw[hstk]; exact c1) (fun b hb=>by
  simp at hb
  rcases hb with rfl | rfl
  ·exact fx
  ·exact fT)
 have fT1:=new1 I z1
 refine wp_flight (s:={ s with heap:=h1 }) F1 fun h2 c2 F2=>?_
 have I2:Inv X pins σ H { s with heap:=h2 }:=go (s1:={ s with heap:=h1 }) I1 (ch:=[T1]) ⟨fun b o e _ hc=>c2.keep b o e (by simp) hc,c2.slot,c2.size⟩ (fun b hb=>by simp at hb; rw[hb]; exact fT1)
 refine wpAny_handleBy_cons (codeAny_handlers_test ?_) (by intro z; cases z)
 have J2:=Inv.toHand x I2
 refine ld_glob (X:=Cx.hand X x) J2 hg hm ?_ hd
 obtain⟨oe,vs,oT,ts,k1,k2,k3,k4,k5,k6,k7,k8,k9⟩:=id F2
 refine exc_matches I2.kIn k1 k2 cD un ?_
 refine codeAny_handlers_suite (wp_flight (s:={ s with heap:=h2 }) F2 fun h3 c3 F3=>?_)
 have I3:Inv X pins σ H { s with heap:=h3 }:=go (s1:={ s with heap:=h2 }) I2 (ch:=[T1]) ⟨fun b o e _ hc=>c3.keep b o e (by simp) hc,c3.slot,c3.size⟩ (fun b hb=>by simp at hb; rw[hb]; exact fT1)
 obtain⟨oe3,vs3,oT3,ts3,m1,m2,m3,m4,m5,m6,m7,m8,m9⟩:=id F3
 have fs:X.fs=frs X.outer:=rfl
 have nfx:x∉X.fs:=fun z=>by
  have:=not_frame (b:=x) (base:=X.base) (s:={ s with heap:=h3 }) (env:=X.env) (outer:=X.outer) (by rw[<-hstk]; exact I3.stack) m1 m3
  exact this (by rw[List.filterMap_cons,hfr]; exact List.mem_cons_of_mem _ z)
 have J3:Inv (Cx.handR X x oe3) pins σ H { s with heap:=h3 }:=Inv.toHandR I3 ⟨m1,g1,(n2 x (.inl rfl)).1,nfx,fun v z=>by rw[m3] at z; cases z⟩
 refine wpAny_mono (hh x oe3 vs3 m3 (m9 rfl) pins _ _ _ { nx:=De.nx,rt:=De.rt } J3 q) (fun fl s6 h6=>?_) fun e6 s6 h6=>hp _ e6 s6 h6
 cases fl with
 | next=>
  obtain⟨σ',H',I6,q6⟩:=h6
  exact⟨σ',H',Inv.ofHandR hca I6,q6⟩
 | ret u=>
  obtain⟨v,σ',H',I6,r6,q6⟩:=h6
  exact⟨v,σ',H',Inv.ofHandR hca I6,r6,q6⟩
 | brk=>
  obtain⟨σ',H',I6,q6⟩:=h6
  exact q6.elim
 | cont=>
  obtain⟨σ',H',I6,q6⟩:=h6
  exact q6.elim
theorem pass_tryRS {pins:List (Addr×Obj)} {De:Ends} (f:Framed X) (hg:Gl X cn) (hm:X.mg cn=some (.ref D)) (cD:XCls X.K D) (hcl:X.calm=true) (hp:∀ y,PassesOwnAt (model X.prog X.w) (X.A.mark (some y)) X.A X.env X.xe) (hh:X.A.handled=none->∀ y oe vy,oe.data=.fields vy->vy[2]?=some .none->PSs (Cx.handR X y oe) (b₀::suite) th)
  (hd:(cn == ("__debug__" : Str))=false:=by decide):PassesS (CXB true X.prog X.w) (Cx.tried X [.ExceptHandler (some (.Name cn p)) none (b₀::suite) hpos] pins De) (trySt X.K D th De):=by
 intro p2 σ H s e s' I h
 obtain⟨x,C,T,H',rfl,I',F,g1,g2,n1,n2,q⟩:=Inv.raised I h
 have gone:∀ b,(b=x\/b=T)->s.heap.get? b=none:=fun b hb=>by rcases hb with rfl | rfl <;> assumption
 have J:Inv X pins σ H s:=Inv.untried I
 refine handledR f.stk f.fr f.ex hg hm cD (J.ok.hd hcl) hp (hh (J.ok.hd hcl)) hd (Inv.untried I') F g1 g2 (fun b hb=>?_) (fun b hb=>⟨?_,fun y c e z=>?_,fun p hp z=>?_⟩) q
 ·cases e:X.s₀.heap.get? b with
  | none=>rfl
  | some o=>
   obtain⟨o',e'⟩:=J.base.there b o e (by rw[f.ex]; simp)
   rw[gone b hb] at e'; cases e'
 ·rintro rfl
  obtain⟨m,⟨o,es,ep,ho,_⟩,_⟩:=J.loc
  rw[gone _ hb] at ho; cases ho
 ·obtain⟨v,o,ho,_⟩:=J.cell y c e
  rw[z,gone b hb] at ho; cases ho
 ·have:=(J.pin p hp).1
  rw[z,gone b hb] at this; cases this
theorem pass_tryR {pins:List (Addr×Obj)} {De:Ends} (f:Framed X) (hg:Gl X cn) (hm:X.mg cn=some (.ref D)) (cD:XCls X.K D) (hcl:X.calm=true) (hp:∀ y,PassesOwnAt (model X.prog X.w) (X.A.mark (some y)) X.A X.env X.xe) (hh:X.A.handled=none->∀ y oe vy,oe.data=.fields vy->vy[2]?=some .none->PSs (Cx.handR X y oe) (b₀::suite) th)
  (hd:(cn == ("__debug__" : Str))=false:=by decide):Passes (CXB true X.prog X.w) (Cx.tried X [.ExceptHandler (some (.Name cn p)) none (b₀::suite) hpos] pins De) (tryEN X.K D X.N.length th De):=by
 intro p2 σ H s e s' I h
 refine pass_tryRS f hg hm cD hcl hp hh hd p2 σ H s e s' I ?_
 obtain⟨x,C,T,H',e1,e2,e3,e4,e5,e6,e7,e8,e9,e10,C',z1,z2,z3,z4,z5⟩:=h
 exact⟨x,C,T,H',e1,e2,e3,e4,e5,e6,e7,e8,e9,e10,C',z1,z2,z3,z4,z5 σ I.len⟩
end
end L3
namespace L3
open PySem PySem.Spec PyProof.Rows L2 PySem.Builtin PySem.Builtin.Str
section
variable {X:Cx} {es:List Expr} {n:Nat} {t:L2.St->Hp->Prop}
theorem pj_repr {e:Expr} {te:TE} {pos:Pos} (he:PE X e te) (h:PJ X es n t):PJ X (.FormattedValue e 114 none pos::es) (2000002+n) (fun σ H=>te σ H fun v H1=>H1=H/\(∃ l:List Nat,v=.str (oL l)/\l.length<=200000/\∀ c∈l,c<128)/\t σ H):=fun pins s σ H out Q I ht hz q=>by
 refine joinParts_cons (wpAny_FormattedValue_repr (thn (he pins s σ H _ I ht) fun u s1 ⟨v,H1,I1,r1,e1,⟨l,e2,hl,hc⟩,q1⟩=>?_))
 subst e1 e2
 obtain⟨tk,rfl⟩:=r1
 have hr:=StrLaws.reprText_len (oL l) (fun c hm=>by rw[of_oL] at hm; exact Nat.lt_of_lt_of_le (hc c hm) (by decide))
 rw[oL_len] at hr
 have hs:(reprText (oL l)).length<=sizeLine:=Nat.le_trans hr (Nat.le_trans (Nat.add_le_add_right (Nat.mul_le_mul_left 10 hl) 2) (by decide))
 refine pyReprObj_str ?_ hs
 refine formatField_str (fun t' tk'=>?_) hs
 have e3:(out++reprText (oL l)).length=out.length+(reprText (oL l)).length:=strLen_append _ _
 exact⟨by omega,h pins _ σ H1 _ Q (I1.tok _) q1 (by omega) q⟩
theorem pj_str {e:Expr} {te:TE} {pos:Pos} (he:PE X e te) (h:PJ X es n t):PJ X (.FormattedValue e (-1) none pos::es) (200000+n) (fun σ H=>te σ H fun v H1=>H1=H/\(∃ l:List Nat,v=.str (oL l)/\l.length<=200000)/\t σ H):=fun pins s σ H out Q I ht hz q=>by
 refine joinParts_cons (FormattedValue_plain (thn (he pins s σ H _ I ht) fun u s1 ⟨v,H1,I1,r1,e1,⟨l,e2,hl⟩,q1⟩=>?_))
 subst e1 e2
 obtain⟨tk,rfl⟩:=r1
 have hs:(oL l).length<=sizeLine:=by rw[oL_len]; exact Nat.le_trans hl (by decide)
 refine formatField_str (fun t' tk'=>?_) hs
 have e3:(out++oL l).length=out.length+(oL l).length:=strLen_append _ _
 have e4:=oL_len l
 exact⟨by omega,h pins _ σ H1 _ Q (I1.tok _) q1 (by omega) q⟩
end
end L3
namespace L3
open PySem PySem.Spec PyProof.Rows L2 PySem.Builtin PySem.Builtin.Str
def splL (c:Nat):List Nat->List Nat×List (List Nat)
 | []=>([],[])
 | x::r=>if x=c then ([],(splL c r).1::(splL c r).2) else (x::(splL c r).1,(splL c r).2)
theorem splL_ok (c:Nat):∀ l,jn [c] (splL c l).1 (splL c l).2=l/\c∉(splL c l).1/\∀ m∈(splL c l).2,c∉m
 | []=>⟨rfl,by simp[splL],by simp[splL]⟩
 | x::r=>by
  obtain⟨h1,h2,h3⟩:=splL_ok c r
  unfold splL
  by_cases e:x=c
  ·rw[if_pos e]
   subst e
   refine⟨?_,by simp,fun m hm=>?_⟩
   ·unfold jn at h1 ⊢
    rw[List.flatMap_cons]
    show x::((splL x r).1++_)=x::r
    rw[h1]
   ·rcases List.mem_cons.mp hm with rfl | hm
    ·exact h2
    ·exact h3 m hm
  ·rw[if_neg e]
   refine⟨?_,fun z=>?_,h3⟩
   ·unfold jn at h1 ⊢
    rw[List.cons_append,h1]
   ·rcases List.mem_cons.mp z with z | z
    ·exact e z.symm
    ·exact h2 z
theorem split_L (c:Nat) (l:List Nat):Txt.split (oL l) ⟨#[c]⟩=oL (splL c l).1::(splL c l).2.map oL:=by
 obtain⟨h1,h2,h3⟩:=splL_ok c l
 have:=split_oL h2 h3
 rw[h1] at this
 exact this
theorem splL_jn {c:Nat} {w:List Nat} {ls:List (List Nat)} (h:c∉w) (hl:∀ l∈ls,c∉l):splL c (jn [c] w ls)=(w,ls):=by
 obtain⟨h1,h2,h3⟩:=splL_ok c (jn [c] w ls)
 obtain⟨a,b⟩:=jn_inj h2 h h3 hl h1
 exact Prod.ext a b
theorem splL_mem {c x:Nat} {l:List Nat}:(x∈(splL c l).1\/∃ m∈(splL c l).2,x∈m)->x∈l:=by
 intro h
 rw[<-(splL_ok c l).1]
 unfold jn
 rcases h with h | ⟨m,hm,h⟩
 ·exact List.mem_append_left _ h
 ·exact List.mem_append_right _ (List.mem_flatMap.mpr ⟨m,hm,List.mem_append_right _ h⟩)
theorem splL_len (c:Nat):∀ l,(splL c l).1.length<=l.length/\(splL c l).2.length<=l.length/\∀ m∈(splL c l).2,m.length<=l.length
 | []=>by simp[splL]
 | x::r=>by
  obtain⟨h1,h2,h3⟩:=splL_len c r
  unfold splL
  by_cases e:x=c
  ·rw[if_pos e]
   refine⟨by simp,by simp; omega,fun m hm=>?_⟩
   rcases List.mem_cons.mp hm with rfl | hm
   ·simp; omega
   ·have:=h3 m hm; simp; omega
  ·rw[if_neg e]
   exact⟨by simp; omega,by simp; omega,fun m hm=>by have:=h3 m hm; simp; omega⟩
def numF (l:List Nat):Option Int:=if (1<=l.length/\l.length<=3/\∀ c∈l,48<=c/\c<=57)/\¬ (l.head?=some 48/\1<l.length) then some ((PySem.NumText.digitsVal l:Nat):Int) else none
theorem numF_range {l:List Nat} {n:Int} (h:numF l=some n):0<=n/\n<1000:=by
 unfold numF at h
 split at h
 ·rename_i hc
  obtain⟨⟨h1,h3,hd⟩,_⟩:=hc
  cases h
  refine⟨Int.natCast_nonneg _,?_⟩
  have:PySem.NumText.digitsVal l<1000:=by
   match l,h1,h3,hd with
   | [a],_,_,hd=>
    have:=hd a (by simp)
    show 0*10+(a-48)<1000
    omega
   | [a,b],_,_,hd=>
    have:=hd a (by simp)
    have:=hd b (by simp)
    show (0*10+(a-48))*10+(b-48)<1000
    omega
   | [a,b,c],_,_,hd=>
    have:=hd a (by simp)
    have:=hd b (by simp)
    have:=hd c (by simp)
    show ((0*10+(a-48))*10+(b-48))*10+(c-48)<1000
    omega
   | [],h1,_,_=>exact absurd h1 (by simp)
   | _::_::_::_::_,_,h3,_=>exact absurd h3 (by simp)
  omega
 ·cases h
theorem numF_dg {n:Int} (h0:0<=n) (h1:n<1000):numF (dg n)=some n:=by
 have hl:=dg_len h0 h1
 have hm:=dg_mem h0 h1
 obtain⟨a,r,e,hr⟩:=dg_head h0 h1
 unfold numF
 have nz:¬ ((dg n).head?=some 48/\1<(dg n).length):=fun z=>by
  rw[e] at z
  have z1:a=48:=by simpa using z.1
  rw[hr z1] at z
  exact absurd z.2 (by simp)
 rw[if_pos ⟨⟨hl.1,hl.2,hm⟩,nz⟩]
 obtain⟨m,rfl⟩:=Int.eq_ofNat_of_zero_le h0
 rw[dg_nat m,PySem.W.KIN.val_back]
def allS:List (List Nat)->Option (List Int)
 | []=>some []
 | l::r=>match numF l,allS r with
  | some n,some ns=>some (n::ns)
  | _,_=>none
theorem allS_dg:∀ {ns:List Int},(∀ n∈ns,0<=n/\n<1000)->allS (ns.map dg)=some ns
 | [],_=>rfl
 | n::r,h=>by
  have h1:=numF_dg (h n (by simp)).1 (h n (by simp)).2
  have h2:=allS_dg (ns:=r) fun x hx=>h x (by simp[hx])
  rw[List.map_cons,allS,h1,h2]
theorem allS_len:∀ {ls:List (List Nat)} {ns:List Int},allS ls=some ns->ns.length=ls.length/\∀ n∈ns,0<=n/\n<1000
 | [],ns,h=>by cases h; simp
 | l::r,ns,h=>by
  rw[allS] at h
  split at h
  ·rename_i n ms h1 h2
   cases h
   obtain⟨e1,e2⟩:=allS_len h2
   refine⟨by simp[e1],fun x hx=>?_⟩
   rcases List.mem_cons.mp hx with rfl | hx
   ·exact numF_range h1
   ·exact e2 x hx
  ·cases h
theorem allS_take {ls:List (List Nat)} {ns:List Int} {i:Nat} {l:List Nat} (h:allS (ls.take i)=some ns) (e:ls[i]?=some l):allS (ls.take (i+1))=(numF l).map fun n=>ns++[n]:=by
 induction ls generalizing i ns with
 | nil=>simp at e
 | cons m r ih=>
  cases i with
  | zero=>
   simp at e; subst e
   simp[allS] at h; subst h
   simp only[List.take_succ_cons,List.take_zero,allS]
   cases numF m <;> rfl
  | succ i=>
   rw[List.take_succ_cons,allS] at h
   split at h
   ·rename_i n ms h1 h2
    cases h
    rw[List.take_succ_cons,allS,h1,ih h2 (by simpa using e)]
    cases numF l <;> rfl
   ·cases h
theorem allS_none {ls:List (List Nat)} {i:Nat} {l:List Nat} (e:ls[i]?=some l) (h:numF l=none):allS ls=none:=by
 induction ls generalizing i with
 | nil=>simp at e
 | cons m r ih=>
  cases i with
  | zero=>
   simp at e; subst e
   rw[allS,h]
  | succ i=>
   rw[allS,ih (by simpa using e)]
   cases numF m <;> rfl
def numsF (wd l:List Nat):Option (List Int):=if (splL 32 l).1=wd then allS (splL 32 l).2 else none
theorem numsF_line {wd:List Nat} {ns:List Int} (hw:32∉wd) (hn:∀ n∈ns,0<=n/\n<1000):numsF wd (lineL wd ns)=some ns:=by
 have e:splL 32 (lineL wd ns)=(wd,ns.map dg):=splL_jn hw fun l hl z=>by
  obtain⟨n,hn',rfl⟩:=List.mem_map.mp hl
  have:=dg_mem (hn n hn').1 (hn n hn').2 32 z
  omega
 unfold numsF
 rw[e,if_pos rfl]
 exact allS_dg hn
theorem numsF_ok {wd l:List Nat} {ns:List Int} (h:numsF wd l=some ns):ns.length<=l.length/\∀ n∈ns,0<=n/\n<1000:=by
 unfold numsF at h
 split at h
 ·obtain⟨e1,e2⟩:=allS_len h
  have:=(splL_len 32 l).2.1
  exact⟨by omega,e2⟩
 ·cases h
abbrev roomsW:List Nat:=[114,111,111,109,115]
abbrev doorW:List Nat:=[100,111,111,114]
def stepF (n:Nat) (ts:List (List Int)) (l:List Nat):Option (List (List Int)):=match numsF doorW l with
 | some [a,m,b]=>if (a<n/\b<n)/\[a,m,b]∉ts/\ts.length<400 then some (ts++[[a,m,b]]) else none
 | _=>none
def doorsF (n:Nat):List (List Int)->List (List Nat)->Option (List (List Int))
 | ts,[]=>some ts
 | ts,l::r=>match stepF n ts l with
  | some us=>doorsF n us r
  | none=>none
def readF (l:List Nat):Option (List Int×List (List Int)):=
 if ((splL 10 l).1::(splL 10 l).2).getLast?=some [] then match ((splL 10 l).1::(splL 10 l).2).dropLast with
  | []=>none
  | f::r=>match numsF roomsW f with
   | some cols=>if 1<=cols.length/\cols.length<=60 then (doorsF cols.length [] r).map fun ts=>(cols,ts) else none
   | none=>none
 else none
theorem doorsF_app (n:Nat):∀ (a:List (List Nat)) (ts:List (List Int)) (b:List (List Nat)),doorsF n ts (a++b)=(doorsF n ts a).bind fun us=>doorsF n us b
 | [],ts,b=>rfl
 | l::r,ts,b=>by
  rw[List.cons_append,doorsF,doorsF]
  cases stepF n ts l with
  | none=>rfl
  | some us=>exact doorsF_app n r us b
theorem doorsF_bad {n:Nat} {l:List Nat} (h:∀ ts,stepF n ts l=none):∀ (ls:List (List Nat)) (ts:List (List Int)),l∈ls->doorsF n ts ls=none
 | [],_,hm=>absurd hm (by simp)
 | m::r,ts,hm=>by
  rw[doorsF]
  rcases List.mem_cons.mp hm with rfl | hm
  ·rw[h ts]
  ·cases stepF n ts m with
   | none=>rfl
   | some us=>exact doorsF_bad h r us hm
theorem doorsF_len {n:Nat}:∀ {ls:List (List Nat)} {ts us:List (List Int)},doorsF n ts ls=some us->us.length=ts.length+ls.length/\(ts.length<=400->us.length<=400)
 | [],ts,us,h=>by cases h; simp
 | l::r,ts,us,h=>by
  rw[doorsF] at h
  split at h
  ·rename_i vs hv
   obtain⟨e1,e2⟩:=doorsF_len h
   have:vs.length=ts.length+1/\vs.length<=400:=by
    unfold stepF at hv
    split at hv
    ·split at hv
     ·rename_i hc
      cases hv
      rw[List.length_append]
      exact⟨rfl,by simp; omega⟩
     ·cases hv
    ·cases hv
   refine⟨by rw[e1,this.1,List.length_cons]; omega,fun _=>e2 this.2⟩
  ·cases h
theorem doorsF_good {n:Nat}:∀ {us ts:List (List Int)},(ts++us).Nodup->(∀ t∈us,∃ a m b,t=[a,m,b]/\(0<=a/\a<n)/\(0<=m/\m<1000)/\(0<=b/\b<n))->n<=60->(ts++us).length<=400->doorsF n ts (us.map (lineL doorW))=some (ts++us)
 | [],ts,_,_,_,_=>by rw[List.map_nil,doorsF,List.append_nil]
 | t::r,ts,nd,ft,hn,hl=>by
  obtain⟨a,m,b,rfl,ra,rm,rb⟩:=ft t (by simp)
  have e:numsF doorW (lineL doorW [a,m,b])=some [a,m,b]:=numsF_line (by decide) fun x hx=>by
   simp at hx
   rcases hx with rfl | rfl | rfl <;> omega
  have nw:[a,m,b]∉ts:=fun z=>by
   rw[List.nodup_append] at nd
   exact nd.2.2 _ z _ (by simp) rfl
  have es:stepF n ts (lineL doorW [a,m,b])=some (ts++[[a,m,b]]):=by
   unfold stepF
   rw[e]
   dsimp only
   rw[if_pos ⟨⟨by omega,by omega⟩,nw,by simp at hl; omega⟩]
  rw[List.map_cons,doorsF,es]
  have:=doorsF_good (us:=r) (ts:=ts++[[a,m,b]]) (by rw[List.append_assoc]; exact nd) (fun t ht=>ft t (by simp[ht])) hn (by rw[List.append_assoc]; exact hl)
  rw[List.append_assoc] at this
  exact this
theorem splL_text {ls:List (List Nat)} {l:List Nat} (h:10∉l) (hl:∀ m∈ls,10∉m):splL 10 (textL (l::ls))=(l,ls++[[]]):=by
 rw[text_jn,splL_jn h]
 intro m hm
 rcases List.mem_append.mp hm with z | z
 ·exact hl m z
 ·simp at z; subst z; simp
theorem readF_text {ls:List (List Nat)} {l:List Nat} (h:10∉l) (hl:∀ m∈ls,10∉m):readF (textL (l::ls))=match numsF roomsW l with
   | some cols=>if 1<=cols.length/\cols.length<=60 then (doorsF cols.length [] ls).map fun ts=>(cols,ts) else none
   | none=>none:=by
 unfold readF
 rw[splL_text h hl]
 dsimp only
 have e1:(l::(ls++[[]])).getLast?=some []:=by rw[<-List.cons_append,List.getLast?_append]; rfl
 have e2:(l::(ls++[[]])).dropLast=l::ls:=by rw[<-List.cons_append,List.dropLast_concat]
 rw[if_pos e1,e2]
end L3
namespace L3
open PySem PySem.Spec PyProof.Rows L2 PySem.Builtin PySem.Builtin.Str
theorem rep_size (a:Array Nat):∀ (k:Nat) (acc:Array Nat),((List.replicate k a).foldl (·++·) acc).size=acc.size+a.size*k
 | 0,acc=>by simp
 | k+1,acc=>by
  rw[List.replicate_succ,List.foldl_cons,rep_size a k,Array.size_append,Nat.mul_succ]
  omega
section
variable {X:Cx}
theorem op_rep_str:OpR X (binaryOp .Mult) (fun x y H Q=>∃ (z:Str) (n:Int),x=.str z/\y=.int n/\(1<n/\n<=1000)/\(0<z.length/\z.length<=100)/\Q (.str ⟨(List.replicate n.toNat z.cps).foldl (·++·) #[]⟩) H):=by
 intro pins s σ H x y v u Q I rx ry h
 obtain⟨z,n,rfl,rfl,hn,hz,q⟩:=h
 obtain⟨t,rfl⟩:=rx
 obtain⟨t',rfl⟩:=ry
 have b1:(n == 1||z.length == 0)=false:=by
  rw[Bool.or_eq_false_iff]
  exact⟨beq_eq_false_iff_ne.mpr (by omega),beq_eq_false_iff_ne.mpr (by omega)⟩
 have b2:z.length*n.toNat<=100*1000:=Nat.mul_le_mul hz.2 (by omega)
 have b3:tooLong (z.length*n.toNat)=false:=by
  unfold tooLong
  exact decide_eq_false (Nat.not_lt.mpr (Nat.le_trans b2 (by decide)))
 refine PySem.P.mul_str (by rw[Bool.or_eq_false_iff]; exact⟨decide_eq_false (by omega),decide_eq_false (by omega)⟩) (fun _ _=>?_) (fun _ _=>b3) ?_
 ·have:(2 ^ 63-1:Int)/1000<=(2 ^ 63-1)/n:=by
   refine Int.le_ediv_of_mul_le (by omega) ?_
   have:(2 ^ 63-1:Int)/1000*n<=(2 ^ 63-1:Int)/1000*1000:=Int.mul_le_mul_of_nonneg_left (by omega) (by decide)
   exact Int.le_trans this (by decide)
  have:((100:Nat):Int)<=(2 ^ 63-1:Int)/1000:=by decide
  omega
 ·rw[if_neg (by omega),b1,if_neg (by decide)]
  refine⟨?_,.str _,H,I.tok _,⟨_,rfl⟩,q⟩
  show ((List.replicate n.toNat z.cps).foldl (·++·) #[]).size<=sizeLine
  rw[rep_size]
  have e:z.cps.size=z.length:=rfl
  rw[e,Array.size_empty,Nat.zero_add]
  exact Nat.le_trans b2 (by decide)
theorem sl_strTo:SlR X (fun x lo hi H Q=>∃ (z:Str) (j:Int),x=.str z/\lo=none/\hi=some j/\z.length<=sizeLine/\Q (.str (Txt.slice z none (some j))) H):=by
 intro pins s σ H x v vl vu lo hi sl Q I rx hs pl pu h
 obtain⟨z,j,rfl,rfl,rfl,hz,q⟩:=h
 obtain⟨t,rfl⟩:=rx
 cases pl
 cases pu
 rename_i uj
 refine⟨"str",_,F.slot_str_getitem.lookup,typeIs_str _ _ _,wpAny_getItem_str_slice (l:=none) (u:=some (j,uj)) (st:=none) hs rfl (post_val_or_str ⟨Nat.le_trans (Txt.slice_le z _ _) hz,fun t' k=>?_⟩)⟩
 exact⟨.str _,H,I.tok _,⟨_,rfl⟩,q⟩
theorem slice_last {l:List Nat} (h:1<=l.length):Txt.slice (oL l) none (some (-1))=oL l.dropLast:=by
 have e:=oL_len l
 have h2:StrLaws.sliceText (oL l) none (some (-1))=_:=StrLaws.sliceText_to_neg (x:=oL l) (j:=-1) (by decide) (by omega)
 refine h2.trans ?_
 rw[of_oL,e,List.drop_zero,List.dropLast_eq_take,show ((-1:Int)+(l.length:Nat)-0).toNat=l.length-1 by omega]
 rfl
inductive Strs:List Expr->List Str->Prop
 | nil:Strs [] []
 | cons {x:Str} {k:Nat} {p:Pos} {es:List Expr} {xs:List Str}:Strs es xs->Strs (.Constant (.str x) k p::es) (x::xs)
theorem pa_strs {es:List Expr} {xs:List Str} (h:Strs es xs):PA X es (fun _ H Q=>Q (xs.map V.str) H):=by
 induction h with
 | nil=>exact pa_nil
 | cons h ih=>exact pa_cons pe_str ih
theorem sw_list {es:List Expr} {p p2:Pos} {x:Str} {n:Nat} {env:Env}:swapsWith (.List es p) (some (.Name x p2)) n env=pure false:=rfl
theorem sw_op {a b:Expr} {o:Operator} {p p2:Pos} {x:Str} {n:Nat} {env:Env}:swapsWith (.BinOp a o b p) (some (.Name x p2)) n env=pure false:=rfl
end
end L3
namespace L3
open PySem PySem.Spec PyProof.Rows L2 PySem.Builtin PySem.Builtin.Str
def Asc (l:List Nat):Prop:=l.length<=200000/\∀ c∈l,c<128
structure Ln (l:List Nat):Prop where
 len:l.length<=250
 asc:∀ c∈l,c<128
 one:10∉l
theorem asc_text {ls:List (List Nat)} (h:∀ l∈ls,Ln l) (hl:ls.length<=410):Asc (textL ls):=by
 refine⟨Nat.le_trans (textL_len fun l hm=>(h l hm).len) (Nat.le_trans (Nat.mul_le_mul_right _ hl) (by decide)),fun c hc=>?_⟩
 unfold textL at hc
 obtain⟨l,hm,z⟩:=List.mem_flatMap.mp hc
 rcases List.mem_append.mp z with z | z
 ·exact (h l hm).asc c z
 ·simp at z; omega
theorem ln_line {w:List Nat} {ns:List Int} (hw:w.length<=10/\(∀ c∈w,c<128)/\10∉w) (hn:∀ n∈ns,0<=n/\n<1000) (hl:ns.length<=60):Ln (lineL w ns):=by
 refine⟨?_,fun c hc=>?_,fun z=>?_⟩
 ·have:=line_len (w:=w) hn
  omega
 ·rcases line_mem hn hc with h | h | h
  ·exact hw.2.1 c h
  ·omega
  ·omega
 ·rcases line_mem hn z with h | h | h
  ·exact hw.2.2 h
  ·exact absurd h (by decide)
  ·omega
theorem ln_rooms {cols:List Int} (hn:∀ n∈cols,0<=n/\n<1000) (hl:cols.length<=60):Ln (lineL roomsW cols):=ln_line (by decide) hn hl
theorem ln_door {t:List Int} (hn:t.length=3/\∀ n∈t,0<=n/\n<1000):Ln (lineL doorW t):=ln_line (by decide) hn.2 (by omega)
theorem readF_rooms {cols:List Int} {ls:List (List Nat)} (hn:∀ n∈cols,0<=n/\n<1000) (n1:1<=cols.length) (n6:cols.length<=60) (hl:∀ l∈ls,Ln l):readF (textL (lineL roomsW cols::ls))=(doorsF cols.length [] ls).map fun ts=>(cols,ts):=by
 rw[readF_text (ln_rooms hn n6).one fun m hm=>(hl m hm).one,numsF_line (by decide) hn]
 dsimp only
 rw[if_pos ⟨n1,n6⟩]
theorem readF_no {cols:List Int} {ls:List (List Nat)} (hn:∀ n∈cols,0<=n/\n<1000) (n1:1<=cols.length) (n6:cols.length<=60) (hl:∀ l∈ls,Ln l) (h:doorsF cols.length [] ls=none):readF (textL (lineL roomsW cols::ls))=none:=by
 rw[readF_rooms hn n1 n6 hl,h]; rfl
theorem readF_first {f:List Nat} {ls:List (List Nat)} (h:10∉f) (hl:∀ l∈ls,Ln l) (hf:∀ ns,numsF roomsW f=some ns->¬ (1<=ns.length/\ns.length<=60)):readF (textL (f::ls))=none:=by
 rw[readF_text h fun m hm=>(hl m hm).one]
 cases e:numsF roomsW f with
 | none=>rfl
 | some ns=>
  dsimp only
  rw[if_neg (hf ns e)]
theorem text_end:∀ (ls:List (List Nat)) (l:List Nat),textL (l::ls)=jn [10] l ls++[10]
 | [],l=>by simp[textL,jn]
 | m::r,l=>by
  have:=text_end r m
  unfold textL jn at *
  rw[List.flatMap_cons,this]
  simp
theorem readF_open {ls:List (List Nat)} {l:List Nat} (h:∀ m∈l::ls,10∉m/\m≠[]):readF (textL (l::ls)).dropLast=none:=by
 rw[text_end,List.dropLast_concat]
 unfold readF
 rw[splL_jn (h l (by simp)).1 fun m hm=>(h m (List.mem_cons_of_mem _ hm)).1]
 dsimp only
 rw[if_neg]
 intro z
 exact (h [] (List.mem_of_getLast? z)).2 rfl
theorem line_ne {w:List Nat} {ns:List Int} (h:w≠[]):lineL w ns≠[]:=by
 unfold lineL jn
 cases w with
 | nil=>exact absurd rfl h
 | cons a r=>simp
theorem readF_doors {ts:List (List Int)} (h:∀ t∈ts,t.length=3/\∀ n∈t,0<=n/\n<1000):readF (textL (ts.map (lineL doorW)))=none:=by
 cases ts with
 | nil=>rfl
 | cons t r=>
  rw[List.map_cons]
  refine readF_first (ln_door (h t (by simp))).one (fun l hl=>?_) fun ns hns=>?_
  ·obtain⟨u,hu,rfl⟩:=List.mem_map.mp hl
   exact ln_door (h u (by simp[hu]))
  ·exfalso
   unfold numsF at hns
   have e:splL 32 (lineL doorW t)=(doorW,t.map dg):=splL_jn (by decide) fun l hl z=>by
    obtain⟨n,hn',rfl⟩:=List.mem_map.mp hl
    have hb:=(h t (by simp)).2 n hn'
    have:=dg_mem hb.1 hb.2 32 z
    omega
   rw[e,if_neg (show ¬ doorW=roomsW by decide)] at hns
   cases hns
theorem step_line {n:Nat} {ts:List (List Int)} {a m b:Int} (ha:0<=a/\a<1000) (hm:0<=m/\m<1000) (hb:0<=b/\b<1000) (h:¬ ((a<n/\b<n)/\[a,m,b]∉ts/\ts.length<400)):stepF n ts (lineL doorW [a,m,b])=none:=by
 unfold stepF
 rw[numsF_line (by decide) fun x hx=>by
  simp at hx
  rcases hx with rfl | rfl | rfl <;> assumption]
 dsimp only
 rw[if_neg h]
theorem doorsF_twice {n:Nat} {us:List (List Int)} {t:List Int} (nd:us.Nodup) (ft:∀ t∈us,∃ a m b,t=[a,m,b]/\(0<=a/\a<n)/\(0<=m/\m<1000)/\(0<=b/\b<n)) (n6:n<=60) (n4:us.length<=400) (ht:t∈us):doorsF n [] (us.map (lineL doorW)++[lineL doorW t])=none:=by
 rw[doorsF_app,doorsF_good (ts:=[]) (by simpa using nd) ft n6 (by simpa using n4),List.nil_append]
 show doorsF n us [lineL doorW t]=none
 obtain⟨a,m,b,rfl,ra,rm,rb⟩:=ft t ht
 rw[doorsF,step_line (by omega) rm (by omega) fun z=>z.2.1 ht]
theorem doorsF_many {n:Nat} {ls:List (List Nat)} (h:400<ls.length):doorsF n [] ls=none:=by
 cases e:doorsF n [] ls with
 | none=>rfl
 | some us=>
  have:=doorsF_len e
  simp at this
  omega
def badB (l:List Nat):Bool:=match numsF doorW l with
 | some [a,_,b]=>!(decide (a<60)&&decide (b<60))
 | _=>true
theorem badB_step {n:Nat} {l:List Nat} (h:badB l=true) (n6:n<=60) (ts:List (List Int)):stepF n ts l=none:=by
 unfold badB at h
 unfold stepF
 split
 ·rename_i a m b e
  rw[e] at h
  dsimp only at h
  rw[if_neg]
  rintro ⟨⟨h1,h2⟩,_⟩
  rw[decide_eq_true (show a<60 by omega),decide_eq_true (show b<60 by omega)] at h
  cases h
 ·rfl
theorem join_none:Txt.join (oL []) []=oL []:=by decide +kernel
theorem joined (ls:List (List Nat)):Txt.join (oL []) (ls.map fun l=>oL (l++[10]))=oL (textL ls):=by
 cases ls with
 | nil=>exact join_none
 | cons l r=>rw[List.map_cons,join_text]
abbrev lnV (ls:List (List Nat)):List V:=ls.map fun l=>V.str (oL (l++[10]))
theorem joins {K:PySem.W.Frag} {H:Hp} {p:Addr} {ls:List (List Nat)} {Q:VK} {sep:Str} (es:sep=oL []) (hp:H p=some (.lst (lnV ls))) (hl:∀ l∈ls,Ln l) (hz:ls.length<=410) (q:Q (.str (oL (textL ls))) H):rJoin K (.str sep) [.ref p] H Q:=by
 refine⟨sep,p,ls.map fun l=>oL (l++[10]),rfl,rfl,SqL.of (by rw[hp,List.map_map]; rfl),by rw[es,oL_len]; decide,?_,by rw[es,joined]; exact q⟩
 have h:=StrLaws.sumLen_le (B:=251) (ls.map fun l=>oL (l++[10])) fun y hy=>by
  obtain⟨l,hm,rfl⟩:=List.mem_map.mp hy
  rw[oL_len,List.length_append,show ([10]:List Nat).length=1 from rfl]
  have:=(hl l hm).len
  omega
 rw[List.length_map] at h ⊢
 omega
end L3
namespace K17
open PySem L2 L3
def top (i:Nat):Stmt:=PySem.Challenge.pw_twinrooms_k17_notes_refused.main.body.getD i (.Pass ⟨0,0,0,0⟩)
abbrev sHall:Stmt:=top 10
abbrev sInit:Stmt:=inClass sHall 0
abbrev sSize:Stmt:=inClass sHall 1
abbrev sCheck:Stmt:=inClass sHall 2
abbrev sColour:Stmt:=inClass sHall 3
abbrev sPaint:Stmt:=inClass sHall 4
abbrev sOpen:Stmt:=inClass sHall 5
abbrev sShut:Stmt:=inClass sHall 6
abbrev sDoors:Stmt:=inClass sHall 7
abbrev sNamesM:Stmt:=inClass sHall 8
abbrev sWays:Stmt:=inClass sHall 9
abbrev sRead:Stmt:=top 14
abbrev sReadRooms:Stmt:=top 15
abbrev sReadDoor:Stmt:=top 16
abbrev sNumsB:Stmt:=top 17
abbrev sNumber:Stmt:=top 18
abbrev sBadLine:Stmt:=top 26
abbrev sBadFirst:Stmt:=top 27
abbrev sLines:Stmt:=top 28
abbrev sSpoiled:Stmt:=top 29
abbrev sCell:Stmt:=top 20
abbrev sNames:Stmt:=top 21
abbrev sDoorsBy:Stmt:=top 22
abbrev sColoursBy:Stmt:=top 23
abbrev sCover:Stmt:=top 24
abbrev sDrawn:Stmt:=top 25
abbrev sRefused:Stmt:=top 30
abbrev sLaw:Stmt:=top 31
structure DefAt (K:PySem.W.Frag) (mg:Str->Option Value) (x:Str) (st:Stmt) (ps:List Str) (f:Addr) (fd:FuncData):Prop where
 fn:Fun K x x st f fd
 bd:Binds K fd ps []
 mg:mg x=some (.ref f)
structure MetAt (K:PySem.W.Frag) (C:Addr) (x qual:Str) (st:Stmt) (ps:List Str) (f:Addr) (fd:FuncData):Prop where
 fn:Fun K x qual st f fd
 bd:Binds K fd ps []
 mt:Meth K C x f
structure ExcAt (K:PySem.W.Frag) (mg:Str->Option Value) (x:Str) (C:Addr):Prop where
 mg:mg x=some (.ref C)
 xc:XCls K C
 xa:XAttr K C
structure HallC (K:PySem.W.Frag) (mg:Str->Option Value) (C:Addr):Prop where
 mg:mg "Hall" = some (.ref C)
 cls:Cls K C
 nc:NoAttr K C "colours"
 nd:NoAttr K C "door_table"
structure Txt (mg:Str->Option Value):Prop where
 len:mg "len" = none
 range:mg "range" = none
 list:mg "list" = none
 isi:mg "isinstance" = none
 sorted:mg "sorted" = none
 min:mg "min" = none
 max:mg "max" = none
 all:mg "all" = none
 int:mg "int" = none
 bool:mg "bool" = none
 enum:mg "enumerate" = none
 zip:mg "zip" = none
 rooms:∃ t,mg "MOST_ROOMS" = some (.int 60 t)
 doors:∃ t,mg "MOST_DOORS" = some (.int 400 t)
theorem bList:bootBuiltins "list" = some (.type "list"):=by decide +kernel
theorem bIsi:bootBuiltins "isinstance" = some (.builtin "isinstance"):=by decide +kernel
theorem bSorted:bootBuiltins "sorted" = some (.builtin "sorted"):=by decide +kernel
theorem bInt:bootBuiltins "int" = some (.type "int"):=by decide +kernel
theorem dec_int (a b:Int):decide (V.int a=V.int b)=decide (a=b):=by simp
section
variable {P:Program} {w:World} {K:PySem.W.Frag} {mg:Str->Option Value} {base:Heap} {f C CR CD CN CT:Addr} {fd:FuncData}
def spSize (C:Addr):Sp:=fun vs H Q _=>∃ h dx c d cols ts,vs=[.ref h]/\HallAt C H h dx c d cols ts/\Q (.int cols.length) H
theorem scSize:FnScope ["self"] ["self"] (defScope sSize):=⟨rfl,rfl,rfl,by decide +kernel,rfl,by decide +kernel,by decide +kernel⟩
theorem ok_size (T:Txt mg) (HC:HallC K mg C) (D:MetAt K C "size" "Hall.size" sSize ["self"] f fd):FnOk P w K mg base CX0 1 f fd ["self"] (spSize C):=by
 refine D.fn.ok scSize (fun vs H Q E h=>?_) (fun cdv A outer s H vs Q E hr h=>?_)
 ·obtain⟨h,dx,c,d,cols,ts,rfl,_⟩:=h
  rfl
 ·obtain⟨h,dx,c,d,cols,ts,rfl,hh,q⟩:=h
  refine⟨_,pss_one (ps_ret (pe_callB call_len_seq rfl T.len PySem.boot_len (pa_cons (pe_fld (pv 0) rfl) pa_nil))),?_⟩
  refine⟨_,rfl,h,C,dx,_,_,rfl,hh.ob,HC.cls,HC.nc,rfl,c,_,rfl,.inl (SqL.of hh.cl),?_⟩
  rw[List.length_map]; exact q
def spCheck (C CR:Addr):Sp:=fun vs H Q E=>∃ h dx c d cols ts a,vs=[.ref h,.int a]/\HallAt C H h dx c d cols ts/\Tell a/\(0<=a/\a<cols.length->Q .non H)/\(¬ (0<=a/\a<cols.length)->E (.ref CR) none H)
theorem scCheck:FnScope ["self", "a"] ["self", "a"] (defScope sCheck):=⟨rfl,rfl,rfl,by decide +kernel,rfl,by decide +kernel,by decide +kernel⟩
theorem ok_check (T:Txt mg) (HC:HallC K mg C) (XR:ExcAt K mg "NoRoom" CR) (D:MetAt K C "check_room" "Hall.check_room" sCheck ["self", "a"] f fd):FnOk P w K mg base (CXE P w) 1 f fd ["self", "a"] (spCheck C CR):=by
 refine L3.Fun.okE D.fn scCheck (fun vs H Q E h=>?_) (fun cdv A outer s H vs Q E hr h=>?_)
 ·obtain⟨h,dx,c,d,cols,ts,a,rfl,_⟩:=h
  rfl
 ·obtain⟨h,dx,c,d,cols,ts,a,rfl,hh,ht,q,qx⟩:=h
  refine⟨_,pss_one (ps_if (PW.pt (pw_or (pt_cmpR op_lt (pv 1) pe_int (nomark _)) (pw_or1 (pt_cmpR op_ge (pv 1) (pe_callB call_len_seq rfl T.len PySem.boot_len (pa_cons (pe_fld (pv 0) rfl) pa_nil)) (nomark _)))))
   (pss_one (ps_raise (E₀:=E) rfl rfl XR.mg XR.xc (pa_cons (pe_join (pj_text (pj_int (pv 1) pj_nil))) pa_nil) (fun pins σ H s h1 y vs I hm q=>xe_new I hm q))) pss_nil),?_⟩
  have bad:¬ (0<=a/\a<cols.length)->(tCons (fun σ H Q=>(fun σ H=>(tVar 1) σ H fun v H1=>H1=H/\(∃ i:Int,v=.int i/\i.natAbs.log2<1920)/\True) σ H/\∀ y,Q (.str y) H) tNil) [some (.ref h),some (.int a)] H (fun vs H1=>vs.length<=sizeLine/\E (.ref CR) none H1):=fun hn=>
   ⟨⟨_,rfl,rfl,⟨a,rfl,ht⟩,True.intro⟩,fun y=>⟨show 1<=sizeLine by decide,qx hn⟩⟩
  refine⟨_,rfl,_,_,rfl,rfl,_,rfl,?_⟩
  refine ite2 (fun hc=>?_) (fun hc=>?_)
  ·have:a<0:=of_decide_eq_true hc
   exact bad (by omega)
  ·have h0:¬ a<0:=fun z=>hc (decide_eq_true z)
   refine⟨_,rfl,_,rfl,h,C,dx,_,_,rfl,hh.ob,HC.cls,HC.nc,rfl,c,_,rfl,.inl (SqL.of hh.cl),_,_,rfl,rfl,_,rfl,?_⟩
   rw[List.length_map]
   refine ite2 (fun hc=>?_) (fun hc=>?_)
   ·have:(cols.length:Int)<=a:=of_decide_eq_true hc
    exact bad (by omega)
   ·have h1:¬ (cols.length:Int)<=a:=fun z=>hc (decide_eq_true z)
    exact q (by omega)
end
end K17
namespace K17
open PySem L2 L3
theorem call_sortedD' {X:Cx} (hc:X.calm=true):CallR X (.builtin "sorted") (rSortD X.K):=fun pins s σ H xs us Q I r h=>call_sortedD (I.ok.hd hc) pins s σ H xs us Q I r h
section
variable {P:Program} {w:World} {K:PySem.W.Frag} {mg:Str->Option Value} {base:Heap} {f fK C CR CD CN CT:Addr} {fd fdK:FuncData}
def spInit (K:PySem.W.Frag) (C CT:Addr):Sp:=fun vs H Q E=>∃ x dx p cols,vs=[.ref x,.ref p]/\H x=some (.ins C dx [])/\SqL K H p (cols.map V.int)/\(1<=cols.length/\cols.length<=60->∀ c d H',H c=none->H d=none->SameX x H H'->HallAt C H' x dx c d cols []->Q .non H') /\
 (¬ (1<=cols.length/\cols.length<=60)->E (.ref CT) none H)
theorem scInit:FnScope ["self", "colours"] ["self", "colours"] (defScope sInit):=⟨rfl,rfl,rfl,by decide +kernel,rfl,by decide +kernel,by decide +kernel⟩
theorem putF1 (v:V):putF "colours" v []=([("colours",v)]:List (Str×V)):=rfl
theorem putF2 (u v:V):putF "door_table" v ([("colours",u)]:List (Str×V))=([("colours",u),("door_table",v)]:List (Str×V)):=by
 have h:¬ (Str.ofString "colours")=(Str.ofString "door_table"):=by decide +kernel
 simp[putF,h]
theorem ok_init (T:Txt mg) (HC:HallC K mg C) (XT:ExcAt K mg "TooMany" CT) (F:Fun K "__init__" "Hall.__init__" sInit f fd):FnOk P w K mg base (CXE P w) 1 f fd ["self", "colours"] (spInit K C CT):=by
 refine L3.Fun.okE F scInit (fun vs H Q E h=>?_) (fun cdv A outer s H vs Q E hr h=>?_)
 ·obtain⟨x,dx,p,cols,rfl,_⟩:=h
  rfl
 ·obtain⟨x,dx,p,cols,rfl,hx,hp,q,qx⟩:=h
  obtain⟨tr,hmr⟩:=T.rooms
  have gR:∀ {X:Cx} {pos:Pos},X.mg=mg->Gl X "MOST_ROOMS" -> PE X (.Name "MOST_ROOMS" pos) (tC (.int 60)):=fun e g=>pe_glob g (by rw[e]; exact hmr) ⟨tr,rfl⟩
  refine⟨_,pss_cons (ps_if (PW.pt (pw_or (pt_cmpR op_lt (pe_callB call_len_seq rfl T.len PySem.boot_len (pa_cons (pv 1) pa_nil)) pe_int (nomark _))
    (pw_or1 (pt_cmpR op_gt (pe_callB call_len_seq rfl T.len PySem.boot_len (pa_cons (pv 1) pa_nil)) (gR rfl rfl) (nomark _)))))
   (pss_one (ps_raise (E₀:=E) rfl rfl XT.mg XT.xc (pa_cons (pe_join (pj_text (pj_int (gR rfl rfl) (pj_text pj_nil)))) pa_nil) (fun pins σ H s h1 y vs I hm q=>xe_new I hm q))) pss_nil)
   (pss_cons (ps_fld (pv 0) (pe_callTy call_list_of rfl T.list bList (pa_cons (pv 1) pa_nil)) rfl) (pss_one (ps_fld (pv 0) pe_dnewT rfl))),?_⟩
  have tl:(60:Int).natAbs.log2<1920:=by decide +kernel
  refine⟨_,rfl,p,_,rfl,.inl hp,_,_,rfl,rfl,_,rfl,?_⟩
  rw[List.length_map]
  refine ite2 (fun hc=>?_) (fun hc=>?_)
  ·have:(cols.length:Int)<1:=of_decide_eq_true hc
   exact⟨⟨rfl,⟨60,rfl,tl⟩,True.intro⟩,fun y=>⟨show 1<=sizeLine by decide,qx (by omega)⟩⟩
  ·have h0:¬ (cols.length:Int)<1:=fun z=>hc (decide_eq_true z)
   refine⟨_,rfl,p,_,rfl,.inl hp,_,_,rfl,rfl,_,rfl,?_⟩
   rw[List.length_map]
   refine ite2 (fun hc=>?_) (fun hc=>?_)
   ·have:(60:Int)<cols.length:=of_decide_eq_true hc
    exact⟨⟨rfl,⟨60,rfl,tl⟩,True.intro⟩,fun y=>⟨show 1<=sizeLine by decide,qx (by omega)⟩⟩
   ·have h1:¬ (60:Int)<cols.length:=fun z=>hc (decide_eq_true z)
    refine⟨_,rfl,p,_,rfl,.inl hp,fun c hc=>?_⟩
    have xc:x≠c:=ne_of_none hx hc
    refine⟨_,rfl,x,C,dx,_,rfl,by rw[upd_ne xc]; exact hx,HC.cls,HC.nc,by decide,?_⟩
    intro d hd
    have xd:x≠d:=ne_of_none upd_same hd
    rw[upd_ne (Ne.symm xd)] at hd
    have cd:c≠d:=ne_of_none upd_same hd
    rw[upd_ne (Ne.symm cd)] at hd
    refine⟨_,rfl,x,C,dx,_,rfl,by rw[upd_ne xd]; exact upd_same,HC.cls,HC.nd,by rw[putF1]; simp,?_⟩
    refine q (by omega) c d _ hc hd (fun b o n e=>?_) ⟨?_,?_,?_,List.nodup_nil,fun t ht=>absurd ht (by simp)⟩
    ·rw[upd_ne n,upd_ne (ne_of_none e hd),upd_ne n,upd_ne (ne_of_none e hc)]; exact e
    ·rw[upd_same,putF1,putF2]
    ·rw[upd_ne (Ne.symm xc),upd_ne cd,upd_ne (Ne.symm xc),upd_same]
    ·rw[upd_ne (Ne.symm xd),upd_same]; rfl
def spColour (C CR:Addr):Sp:=fun vs H Q E=>∃ h dx c d cols ts a,vs=[.ref h,.int a]/\HallAt C H h dx c d cols ts/\Tell a/\(0<=a/\a<cols.length->Q (.int (cols.getD a.toNat 0)) H)/\(¬ (0<=a/\a<cols.length)->E (.ref CR) none H)
theorem scColour:FnScope ["self", "a"] ["self", "a"] (defScope sColour):=⟨rfl,rfl,rfl,by decide +kernel,rfl,by decide +kernel,by decide +kernel⟩
theorem ok_colour (HC:HallC K mg C) (DK:MetAt K C "check_room" "Hall.check_room" sCheck ["self", "a"] fK fdK) (GK:FnOk P w K mg base (CXE P w) 1 fK fdK ["self", "a"] (spCheck C CR)) (D:MetAt K C "colour" "Hall.colour" sColour ["self", "a"] f fd) :
  FnOk P w K mg base (CXE P w) 2 f fd ["self", "a"] (spColour C CR):=by
 refine L3.Fun.okE D.fn scColour (fun vs H Q E h=>?_) (fun cdv A outer s H vs Q E hr h=>?_)
 ·obtain⟨h,dx,c,d,cols,ts,a,rfl,_⟩:=h
  rfl
 ·obtain⟨h,dx,c,d,cols,ts,a,rfl,hh,ht,q,qx⟩:=h
  refine⟨_,pss_cons (ps_expr (pe_meth (pv 0) HC.cls DK.mt GK hr DK.bd .nil (pass_on (E:=E) fun _ _ _ z=>z) (pa_cons (pv 1) pa_nil)))
   (pss_one (ps_ret (pe_ix ix_list (pe_fld (pv 0) rfl) (pv 1) (fun _ _=>rfl)))),?_⟩
  refine⟨_,rfl,h,dx,_,rfl,hh.ob,rfl,_,rfl,h,dx,c,d,cols,ts,a,rfl,hh,ht,fun hb=>?_,qx⟩
  refine⟨_,rfl,h,C,dx,_,_,rfl,hh.ob,HC.cls,HC.nc,rfl,_,rfl,c,_,a,_,rfl,rfl,SqL.of hh.cl,?_,q hb⟩
  have hl:a.toNat<cols.length:=by omega
  have e:a=(a.toNat:Int):=by omega
  have:atI (cols.map V.int) ((a.toNat:Nat):Int)=some (.int (cols.getD a.toNat 0)):=atI_nat (by rw[List.getElem?_map,List.getElem?_eq_getElem hl]; simp[List.getD,List.getElem?_eq_getElem hl])
  rw[<-e] at this
  exact this
def spOpen (C CR CD CT:Addr):Sp:=fun vs H Q E=>∃ h dx c d cols ts a n b,vs=[.ref h,.int a,.int n,.int b]/\HallAt C H h dx c d cols ts/\ts.length<=1000/\Tell a/\Tell n/\Tell b /\
 (¬ ((0<=a/\a<cols.length)/\(0<=b/\b<cols.length))->E (.ref CR) none H) /\
 ((0<=a/\a<cols.length)/\(0<=b/\b<cols.length)->[a,n,b]∈ts->∀ H',Same H H'->E (.ref CD) none H') /\
 ((0<=a/\a<cols.length)/\(0<=b/\b<cols.length)->[a,n,b]∉ts->400<=ts.length->∀ H',Same H H'->E (.ref CT) none H') /\
 ((0<=a/\a<cols.length)/\(0<=b/\b<cols.length)->[a,n,b]∉ts->ts.length<400->∀ H',SameX d H H'->HallAt C H' h dx c d cols (ts++[[a,n,b]])->Q .non H')
theorem scOpen:FnScope ["self", "a", "name", "b"] ["self", "a", "name", "b"] (defScope sOpen):=⟨rfl,rfl,rfl,by decide +kernel,rfl,by decide +kernel,by decide +kernel⟩
theorem ok_open (T:Txt mg) (HC:HallC K mg C) (XD:ExcAt K mg "DoorThere" CD) (XT:ExcAt K mg "TooMany" CT) (DK:MetAt K C "check_room" "Hall.check_room" sCheck ["self", "a"] fK fdK) (GK:FnOk P w K mg base (CXE P w) 1 fK fdK ["self", "a"] (spCheck C CR))
  (D:MetAt K C "open_door" "Hall.open_door" sOpen ["self", "a", "name", "b"] f fd):FnOk P w K mg base (CXE P w) 2 f fd ["self", "a", "name", "b"] (spOpen C CR CD CT):=by
 refine L3.Fun.okE D.fn scOpen (fun vs H Q E h=>?_) (fun cdv A outer s H vs Q E hr h=>?_)
 ·obtain⟨h,dx,c,d,cols,ts,a,n,b,rfl,_⟩:=h
  rfl
 ·obtain⟨h,dx,c,d,cols,ts,a,n,b,rfl,hh,hz,ha,hn,hb,qR,qD,qT,q⟩:=h
  obtain⟨tr,hmr⟩:=T.doors
  have hu:=hu_of hr
  have gR:∀ {X:Cx} {pos:Pos},X.mg=mg->Gl X "MOST_DOORS" -> PE X (.Name "MOST_DOORS" pos) (tC (.int 400)):=fun e g=>pe_glob g (by rw[e]; exact hmr) ⟨tr,rfl⟩
  refine⟨_,pss_cons (ps_expr (pe_meth (pv 0) HC.cls DK.mt GK hr DK.bd .nil (pass_on (E:=E) fun _ _ _ z=>z) (pa_cons (pv 1) pa_nil)))
   (pss_cons (ps_expr (pe_meth (pv 0) HC.cls DK.mt GK hr DK.bd .nil (pass_on (E:=E) fun _ _ _ z=>z) (pa_cons (pv 3) pa_nil)))
   (pss_cons (ps_if (pt_cmp (pc_din hu (pe_tup (pa_cons (pv 1) (pa_cons (pv 2) (pa_cons (pv 3) pa_nil)))) (pe_fld (pv 0) rfl)))
    (pss_one (ps_raise (E₀:=E) rfl rfl XD.mg XD.xc (pa_cons (pe_join (pj_text (pj_int (pv 2) (pj_text (pj_int (pv 1) (pj_text (pj_int (pv 3) (pj_text pj_nil)))))))) pa_nil) (fun pins σ H s h1 y vs I hm q=>xe_new I hm q))) pss_nil)
   (pss_cons (ps_if (pt_cmpR op_ge (pe_callB call_lenT rfl T.len PySem.boot_len (pa_cons (pe_fld (pv 0) rfl) pa_nil)) (gR rfl rfl) (nomark _))
    (pss_one (ps_raise (E₀:=E) rfl rfl XT.mg XT.xc (pa_cons (pe_join (pj_text (pj_int (gR rfl rfl) (pj_text pj_nil)))) pa_nil) (fun pins σ H s h1 y vs I hm q=>xe_new I hm q))) pss_nil)
   (pss_one (ps_dput hu (pe_fld (pv 0) rfl) (pe_tup (pa_cons (pv 1) (pa_cons (pv 2) (pa_cons (pv 3) pa_nil)))) pe_bl rfl))))),?_⟩
  refine⟨_,rfl,h,dx,_,rfl,hh.ob,rfl,_,rfl,h,dx,c,d,cols,ts,a,rfl,hh,ha,fun h1=>?_,fun h1=>qR fun z=>h1 z.1⟩
  refine⟨_,rfl,h,dx,_,rfl,hh.ob,rfl,_,rfl,h,dx,c,d,cols,ts,b,rfl,hh,hb,fun h2=>?_,fun h2=>qR fun z=>h2 z.2⟩
  refine⟨_,rfl,_,rfl,_,rfl,show 3<=sizeLine by decide,fun p hp=>?_⟩
  have s1:Same H (upd H p (.tup [.int a,.int n,.int b])):=same_new hp
  refine⟨_,rfl,h,C,dx,_,_,rfl,s1 _ _ hh.ob,HC.cls,HC.nd,rfl,d,_,rfl,DGet.t (k:=kI [a,n,b]) (s1 _ _ hh.dt) (by rw[upd_same,kI_v]; rfl),_,rfl,?_⟩
  rw[valV_kvT]
  by_cases hm:[a,n,b]∈ts
  ·rw[if_pos hm]
   refine iteT ?_
   exact⟨⟨_,rfl,rfl,⟨n,rfl,hn⟩,_,rfl,rfl,⟨a,rfl,ha⟩,_,rfl,rfl,⟨b,rfl,hb⟩,True.intro⟩,fun y=>⟨show 1<=sizeLine by decide,qD ⟨h1,h2⟩ hm _ s1⟩⟩
  ·rw[if_neg hm]
   refine iteF ?_
   refine⟨_,rfl,h,C,dx,_,_,rfl,s1 _ _ hh.ob,HC.cls,HC.nd,rfl,d,_,rfl,s1 _ _ hh.dt,_,_,rfl,rfl,_,rfl,?_⟩
   rw[kvT_len]
   refine ite2 (fun hc=>?_) (fun hc=>?_)
   ·have:(400:Int)<=ts.length:=of_decide_eq_true hc
    exact⟨⟨rfl,⟨400,rfl,by decide +kernel⟩,True.intro⟩,fun y=>⟨show 1<=sizeLine by decide,qT ⟨h1,h2⟩ hm (by omega) _ s1⟩⟩
   ·have h3:¬ (400:Int)<=ts.length:=fun z=>hc (decide_eq_true z)
    refine⟨_,rfl,h,C,dx,_,_,rfl,s1 _ _ hh.ob,HC.cls,HC.nd,rfl,_,rfl,_,rfl,_,rfl,show 3<=sizeLine by decide,fun p2 hp2=>?_⟩
    have s2:Same H (upd (upd H p (.tup [.int a,.int n,.int b])) p2 (.tup [.int a,.int n,.int b])):=s1.trans (same_new hp2)
    refine⟨d,_,rfl,DPut.t (k:=kI [a,n,b]) (s2 _ _ hh.dt) (by rw[upd_same,kI_v]; rfl) (by rw[kvT_len]; exact small1000 hz),?_⟩
    rw[putK_kvT hm]
    have sx:=(SameX.of s2).trans (SameX.upd (d:=d) (o:=.dT (kvT (ts++[[a,n,b]]))))
    refine q ⟨h1,h2⟩ hm (by omega) _ sx (hh.put sx upd_same ?_ fun t ht=>?_)
    ·exact List.nodup_append.mpr ⟨hh.nd,by simp,fun x hx y hy e=>hm (by simp at hy; rw[<-hy,← e]; exact hx)⟩
    ·rcases List.mem_append.mp ht with ht | ht
     ·exact hh.th t ht
     ·simp at ht; rw[ht]; rfl
end
end K17
namespace K17
open PySem L2 L3
section
variable {P:Program} {w:World} {K:PySem.W.Frag} {mg:Str->Option Value} {base:Heap} {f fK C CR CD CN CT:Addr} {fd fdK:FuncData}
def Told (K:PySem.W.Frag) (H:Hp) (l:Addr) (ts:List (List Int)):Prop:=∃ xs,H l=some (.lst xs)/\DenL K H (ts.map tD) xs
theorem Told.den {H:Hp} {l:Addr} {ts:List (List Int)} (h:Told K H l ts):Den K H (tsD ts) (.ref l):=by
 obtain⟨xs,h1,h2⟩:=h
 exact⟨l,xs,rfl,SqL.of h1,h2⟩
theorem Told.len {H:Hp} {ts:List (List Int)} {xs:List V} (h:DenL K H (ts.map tD) xs):xs.length=ts.length:=by
 have:=h.length; rw[List.length_map] at this; exact this.symm
theorem denL_tups {H:Hp}:∀ {ps:List TI'},(∀ q∈ps,SqT K H q.1 (q.2.map V.int))->DenL K H ((ps.map (·.2)).map tD) (ps.map fun q=>V.ref q.1)
 | [],_=>rfl
 | q::r,h=>⟨V.ref q.1,r.map fun q=>V.ref q.1,rfl,⟨q.1,q.2.map V.int,rfl,h q (by simp),denL_ints q.2⟩,denL_tups fun x hx=>h x (by simp[hx])⟩
theorem tups_denL {H:Hp}:∀ {ts:List (List Int)} {xs:List V},DenL K H (ts.map tD) xs->∃ ps:List TI',ps.map (·.2)=ts/\xs=(ps.map fun q=>V.ref q.1)/\∀ q∈ps,SqT K H q.1 (q.2.map V.int)
 | [],xs,h=>⟨[],rfl,h,fun q hq=>absurd hq (by simp)⟩
 | t::r,xs,h=>by
  obtain⟨v,vs,e,⟨p,ys,h1,h2,h3⟩,h4⟩:=(show ∃ v vs,xs=v::vs/\Den K H (tD t) v/\DenL K H (r.map tD) vs from h)
  obtain⟨ps,g1,g2,g3⟩:=tups_denL h4
  have e3:=h3.ints
  refine⟨(p,t)::ps,by simp[g1],by rw[e,h1,g2]; rfl,fun q hq=>?_⟩
  rcases List.mem_cons.mp hq with rfl | hq
  ·rw[<-e3]; exact h2
  ·exact g3 q hq
def spDoors (K:PySem.W.Frag) (C:Addr):Sp:=fun vs H Q _=>∃ h dx c d cols ts,vs=[.ref h]/\HallAt C H h dx c d cols ts/\∀ l ts' H',H l=none->Same H H'->ts'.Perm ts->ts'.Pairwise lxLe->Told K H' l ts'->Q (.ref l) H'
theorem scDoors:FnScope ["self"] ["self"] (defScope sDoors):=⟨rfl,rfl,rfl,by decide +kernel,rfl,by decide +kernel,by decide +kernel⟩
theorem told_new {H:Hp} {l:Addr} {ps:List TI'} (hl:H l=none) (h:∀ q∈ps,SqT K H q.1 (q.2.map V.int)):Told K (upd H l (.lst (ps.map fun q=>V.ref q.1))) l (ps.map (·.2)):=
 ⟨_,upd_same,DenL.mono (same_new hl) _ _ (denL_tups h)⟩
theorem ok_doors (T:Txt mg) (HC:HallC K mg C) (D:MetAt K C "doors" "Hall.doors" sDoors ["self"] f fd):FnOk P w K mg base CX0 1 f fd ["self"] (spDoors K C):=by
 refine D.fn.ok scDoors (fun vs H Q E h=>?_) (fun cdv A outer s H vs Q E hr h=>?_)
 ·obtain⟨h,dx,c,d,cols,ts,rfl,_⟩:=h
  rfl
 ·obtain⟨h,dx,c,d,cols,ts,rfl,hh,q⟩:=h
  refine⟨_,pss_one (ps_ret (pe_callB (call_sortedD' rfl) rfl T.sorted bSorted (pa_cons (pe_fld (pv 0) rfl) pa_nil))),?_⟩
  refine⟨_,rfl,h,C,dx,_,_,rfl,hh.ob,HC.cls,HC.nd,rfl,d,_,ts,rfl,hh.dt,kvT_keys ts,fun t ht e=>?_,fun l ps hl h1 h2 h3=>?_⟩
  ·have:=hh.th t ht
   rw[e] at this; cases this
  ·exact q l _ _ hl (same_new hl) h1 h2 (told_new hl h3)
end
end K17
namespace K17
open PySem L2 L3
theorem call_isinstXK {X:Cx} {K:PySem.W.Frag} {v:V} {c:Value} (rc:RelV v c) (hc:∀ u,RelV v u->u=c) (h:X.K=K:=by rfl):CallR X (.builtin "isinstance") (fun xs H Q=>∃ x C b,xs=[.ref x,v]/\H x=some (exH x C)/\XCls K C/\XAttr K C/\PySem.W.kitOne K (.ref C) c=some b/\Q (.bl b) H):=h ▸ call_isinstX rc hc
theorem Told.same {K:PySem.W.Frag} {H H':Hp} {l:Addr} {ts:List (List Int)} (s:Same H H') (h:Told K H l ts):Told K H' l ts:=by
 obtain⟨xs,h1,h2⟩:=h
 exact⟨xs,s _ _ h1,DenL.mono s _ _ h2⟩
theorem Told.snoc {K:PySem.W.Frag} {H:Hp} {l p:Addr} {ts:List (List Int)} {t:List Int} {xs:List V} (h1:H l=some (.lst xs)) (h2:DenL K H (ts.map tD) xs) (hp:SqT K H p (t.map V.int)):Told K (upd H l (.lst (xs++[.ref p]))) l (ts++[t]):=by
 obtain⟨ps,g1,g2,g3⟩:=tups_denL h2
 subst g2 g1
 have s:Same (wo H l) (upd H l (.lst ((ps.map fun q=>V.ref q.1)++[.ref p]))):=fun b o e=>by
  by_cases z:b=l
  ·subst z; rw[wo_at] at e; cases e
  ·rw[wo_ne z] at e; rw[upd_ne z]; exact e
 have key:∀ {q:Addr} {ys:List V},SqT K H q ys->SqT K (wo H l) q ys:=fun {q ys} h=>by
  rcases h with (h | ⟨o,h⟩) | h
  ·exact .inl (.inl (by rw[wo_ne (ne_of h h1 (fun e=>by cases e))]; exact h))
  ·exact .inl (.inr ⟨o,by rw[wo_ne (ne_of h h1 (fun e=>by cases e))]; exact h⟩)
  ·exact .inr h
 refine⟨_,upd_same,?_⟩
 have:=denL_tups (K:=K) (H:=wo H l) (ps:=ps++[(p,t)]) fun q hq=>by
  rcases List.mem_append.mp hq with hq | hq
  ·exact key (g3 q hq)
  ·simp at hq; rw[hq]; exact key hp
 simp only[List.map_append,List.map_cons,List.map_nil] at this ⊢
 exact DenL.mono s _ _ this
section
variable {P:Program} {w:World} {K:PySem.W.Frag} {mg:Str->Option Value} {base:Heap} {f fK fO fI C CE CR CD CN CT:Addr} {fd fdK fdO fdI:FuncData}
def cellAt (ns:List Int) (k:Int):Int:=ns.getD k.toNat 0
def spCell (K:PySem.W.Frag):Sp:=fun vs H Q _=>∃ a ns k,vs=[.ref a,.int k]/\SqL K H a (List.map V.int ns)/\0<=k/\Q (.int (cellAt ns k)) H
theorem scCell:FnScope ["script", "k"] ["script", "k"] (defScope sCell):=⟨rfl,rfl,rfl,by decide +kernel,rfl,by decide +kernel,by decide +kernel⟩
theorem atI_int {α:Type} {xs:List α} {k:Int} (h0:0<=k) (h1:k<xs.length) (d:α):atI xs k=some (xs.getD k.toNat d):=by
 have hl:k.toNat<xs.length:=by omega
 have e:k=(k.toNat:Int):=by omega
 have:=atI_nat (xs:=xs) (j:=k.toNat) (v:=xs.getD k.toNat d) (by rw[List.getElem?_eq_getElem hl]; simp[List.getD,List.getElem?_eq_getElem hl])
 rw[<-e] at this
 exact this
theorem getD_map_int (ns:List Int) (i:Nat):(ns.map V.int).getD i (.int 0)=.int (ns.getD i 0):=by
 simp[List.getD,List.getElem?_map]
theorem ok_cell (T:Txt mg) (D:DefAt K mg "_law_cell_at" sCell ["script", "k"] f fd):FnOk P w K mg base CX0 1 f fd ["script", "k"] (spCell K):=by
 refine D.fn.ok scCell (fun vs H Q E h=>?_) (fun cdv A outer s H vs Q E hr h=>?_)
 ·obtain⟨a,ns,k,rfl,_⟩:=h
  rfl
 ·obtain⟨a,ns,k,rfl,hs,h0,q⟩:=h
  refine⟨_,pss_cons (ps_if (pt_cmpR op_lt (pv 1) (pe_callB call_len_seq rfl T.len PySem.boot_len (pa_cons (pv 0) pa_nil)) (nomark _)) (pss_one (ps_ret (pe_ix ix_list (pv 0) (pv 1) (fun _ _=>rfl)))) pss_nil)
   (pss_one (ps_ret pe_int)),?_⟩
  refine⟨_,rfl,_,rfl,a,_,rfl,.inl hs,_,_,rfl,rfl,_,rfl,?_⟩
  refine ite2 (fun hc=>?_) (fun hc=>?_)
  ·have hc':k<(List.map V.int ns).length:=of_decide_eq_true hc
   refine⟨_,rfl,_,rfl,a,_,k,_,rfl,rfl,hs,atI_int h0 hc' (.int 0),?_⟩
   rw[getD_map_int]
   exact q
  ·have hc':¬ k<(List.map V.int ns).length:=fun z=>hc (decide_eq_true z)
   rw[List.length_map] at hc'
   have e:cellAt ns k=0:=by
    unfold cellAt
    rw[List.getD_eq_getElem?_getD,List.getElem?_eq_none (by omega)]
    rfl
   rw[e] at q
   exact q
theorem at0 {α:Type} (a:α) (r:List α):atI (a::r) 0=some a:=atI_nat (j:=0) rfl
theorem at1 {α:Type} (a b:α) (r:List α):atI (a::b::r) 1=some b:=atI_nat (j:=1) rfl
theorem at2 {α:Type} (a b c:α) (r:List α):atI (a::b::c::r) 2=some c:=atI_nat (j:=2) rfl
end
def compScope (e:Expr):Scope:=match e with
 | .ListComp _ _ sc _=>sc
 | _=>{ kind:=.function,names:=[],isGenerator:=false,isCoroutine:=false }
def retExpr (s:Stmt):Expr:=match s with
 | .Return (some e) _=>e
 | _=>.Constant .none 0 ⟨0,0,0,0⟩
def at' (l:List Stmt) (i:Nat):Stmt:=l.getD i (.Pass ⟨0,0,0,0⟩)
abbrev marksD (bs:List Bool):PyData:=.list (bs.map .bool)
theorem den_marks {K:PySem.W.Frag} {H:Hp} {l:Addr} {bs:List Bool} (h:H l=some (.lst (bs.map V.bl))):Den K H (marksD bs) (.ref l):=⟨l,_,rfl,SqL.of h,denL_bools bs⟩
theorem can_ints:∀ ns:List Int,PyData.canLayAll0 (ns.map .int)=true
 | []=>by simp[PyData.canLayAll0]
 | n::r=>by simp[PyData.canLayAll0,PyData.canLay0,can_ints r]
theorem can_tups:∀ ts:List (List Int),PyData.canLayAll0 (ts.map tD)=true
 | []=>by simp[PyData.canLayAll0]
 | t::r=>by simp[PyData.canLayAll0,PyData.canLay0,can_tups r,can_ints t]
theorem can_ts (ts:List (List Int)):(tsD ts).canLay0=true:=by
 show PyData.canLay0 (.list _)=true
 rw[PyData.canLay0]; exact can_tups ts
theorem dep_ints:∀ ns:List Int,PyData.depthAll (ns.map .int)<=1
 | []=>by simp[PyData.depthAll]
 | n::r=>by have:=dep_ints r; simp[PyData.depthAll,PyData.depth]; omega
theorem dep_tups:∀ ts:List (List Int),PyData.depthAll (ts.map tD)<=3
 | []=>by simp[PyData.depthAll]
 | t::r=>by have:=dep_tups r; have:=dep_ints t; simp[PyData.depthAll,PyData.depth]; omega
theorem dep_ts (ts:List (List Int)):(tsD ts).depth<=60:=by
 show PyData.depth (.list _)<=60
 rw[PyData.depth]
 have:=dep_tups ts
 omega
theorem eqv_ts (ts:List (List Int)):PyData.eqv (tsD ts) (tsD ts)=true:=PySem.SeqAt.eqv_refl _ (can_ts ts)
theorem told_sort {Kf:PySem.W.Frag} {H:Hp} {l:Addr} {ts:List (List Int)} {Q:VK} (h:Told Kf H l ts) (th:∀ t∈ts,t≠[]) (q:∀ l' ts' H',H l'=none->Same H H'->ts'.Perm ts->ts'.Pairwise lxLe->Told Kf H' l' ts'->Q (.ref l') H'):rSortL Kf [.ref l] H Q:=by
 obtain⟨xs,h1,h2⟩:=h
 obtain⟨ps,g1,g2,g3⟩:=tups_denL h2
 subst g1 g2
 refine⟨l,ps,rfl,SqL.of h1,fun q hq=>⟨g3 q hq,th _ (List.mem_map.mpr ⟨q,hq,rfl⟩)⟩,fun l' ps' hl p1 p2 p3=>q l' _ _ hl (same_new hl) p1 p2 (told_new hl p3)⟩
theorem cut_to (xs:List V) (j:Nat) (h:j<=xs.length):cutV xs none (some (j:Int))=xs.take j:=by
 unfold cutV
 rw[HT.sIx_none,HT.sIx_nat,Nat.min_eq_left h]
 simp
theorem cut_from (xs:List V) (j:Nat) (h:j<=xs.length):cutV xs (some (j:Int)) none=xs.drop j:=by
 unfold cutV
 rw[HT.sIx_none,HT.sIx_nat,Nat.min_eq_left h]
 rw[List.take_of_length_le]
 rw[List.length_drop]
 exact Nat.le_refl _
section
variable {K:PySem.W.Frag}
def ToldX (K:PySem.W.Frag) (H:Hp) (l:Addr) (ts:List (List Int)) (xs:List V):Prop:=H l=some (.lst xs)/\DenL K H (ts.map tD) xs
theorem ToldX.at {H:Hp} {l:Addr} {ts:List (List Int)} {xs:List V} {i:Nat} {x:V} (h:ToldX K H l ts xs) (hx:xs[i]?=some x):∃ t p,ts[i]?=some t/\x=.ref p/\SqT K H p (t.map V.int):=by
 obtain⟨h1,h2⟩:=h
 obtain⟨ps,g1,g2,g3⟩:=tups_denL h2
 subst g1 g2
 rw[List.getElem?_map] at hx
 obtain⟨q,hq,rfl⟩:=Option.map_eq_some_iff.mp hx
 exact⟨q.2,q.1,by rw[List.getElem?_map,hq]; rfl,rfl,g3 q (List.mem_of_getElem? hq)⟩
end
def Fits (n:Nat) (ts:List (List Int)):Prop:=∀ t∈ts,∃ a m b,t=[a,m,b]/\(0<=a/\a<n)/\(0<=m/\m<1000)/\(0<=b/\b<n)
theorem take_step {α:Type} {l:List α} {i:Nat} {x:α} (h:l[i]?=some x):l.take (i+1)=l.take i++[x]:=by
 rw[List.take_add_one,h]; rfl
end K17
namespace K17
open PySem L2 L3
theorem hu64 {A:Around} {k:Nat} (hr:Room k A):A.units+64<cLine:=Nat.lt_of_le_of_lt (Nat.add_le_add_left (by decide:64<=200) _) (Nat.lt_of_le_of_lt (Nat.add_le_add_right (Nat.le_add_right _ _) _) hr.un)
section
variable {P:Program} {w:World} {K:PySem.W.Frag} {mg:Str->Option Value} {base:Heap} {f fC fN fB fL fV fI fO C CE CR CD CN CT:Addr} {fd fdC fdN fdB fdL fdV fdI fdO:FuncData}
def namesOf (c:Int):List Int:=if c/11 % 4=1 then (List.range 12).map (fun k:Nat=>c % 980+(k:Int)) else [c % 980,c % 980+1+c/7 % 9,c % 980+11+c/3 % 8]
theorem namesOf_len (c:Int):3<=(namesOf c).length/\(namesOf c).length<=12:=by
 unfold namesOf
 split
 ·simp
 ·simp
theorem namesOf_rng (c:Int):∀ n∈namesOf c,0<=n/\n<1000:=by
 unfold namesOf
 split
 ·intro n hn
  obtain⟨k,hk,rfl⟩:=List.mem_map.mp hn
  rw[List.mem_range] at hk
  omega
 ·intro n hn
  simp at hn
  omega
def spNames:Sp:=fun vs H Q _=>∃ c,vs=[.int c]/\∀ l,H l=none->Q (.ref l) (upd H l (.lst ((namesOf c).map V.int)))
theorem scNames:FnScope ["cell", "base"] ["cell"] (defScope sNames):=⟨rfl,rfl,rfl,by decide +kernel,rfl,by decide +kernel,by decide +kernel⟩
def ifBody (s:Stmt):List Stmt:=match s with
 | .If _ b _ _=>b
 | _=>[]
theorem csNames:CompScope (defScope sNames) ["cell", "base"] (compScope (retExpr (at' (ifBody (at' (defBody sNames) 1)) 0))) ["k", "base"] [none,some 1]:=
 ⟨rfl,by decide +kernel,by decide +kernel,by decide +kernel,rfl,by decide +kernel⟩
theorem ok_names (T:Txt mg) (D:DefAt K mg "_law_names" sNames ["cell"] f fd):FnOk P w K mg base CX0 1 f fd ["cell"] spNames:=by
 refine D.fn.ok scNames (fun vs H Q E h=>?_) (fun cdv A outer s H vs Q E hr h=>?_)
 ·obtain⟨c,rfl,_⟩:=h
  rfl
 ·obtain⟨c,rfl,q⟩:=h
  refine⟨_,pss_cons (ps_set (i:=1) scNames.nd rfl (Or.inr rfl) (pe_op op_mod (pv 0) pe_int))
   (pss_cons (ps_if (pt_cmpR op_eq (pe_op op_mod (pe_op op_fdiv (pv 0) pe_int) pe_int) pe_int (nomark _))
    (pss_one (ps_ret (pe_comp csNames (pi_range1 rfl T.range (pa_cons pe_int pa_nil)) (fun C s₀ H₀ ex=>pg_name (i:=0) csNames.nd' rfl (Or.inl rfl)) (fun C s₀ H₀ ex=>pifs_nil) (fun C s₀ H₀ ex=>pe_op op_add (pv 1) (pv 0))))) pss_nil)
   (pss_one (ps_ret (pe_lst (pa_cons (pv 1) (pa_cons (pe_op op_add (pe_op op_add (pv 1) pe_int) (pe_op op_mod (pe_op op_fdiv (pv 0) pe_int) pe_int))
    (pa_cons (pe_op op_add (pe_op op_add (pv 1) pe_int) (pe_op op_mod (pe_op op_fdiv (pv 0) pe_int) pe_int)) pa_nil))))))),?_⟩
  refine⟨_,rfl,_,_,rfl,rfl,(by show (0:Int)<980; decide),?_⟩
  refine⟨_,rfl,_,_,rfl,rfl,⟨by decide,by decide⟩,_,_,rfl,rfl,(by show (0:Int)<4; decide),rfl,_,rfl,?_⟩
  refine ite2 (fun hc=>?_) (fun hc=>?_)
  ·rw[dec_int] at hc
   have hc':c/11 % 4=1:=of_decide_eq_true hc
   unfold namesOf at q
   rw[if_pos hc'] at q
   refine⟨12,rfl,by decide,by decide,turns_range (lo:=0) (n:=12) (fun i σ ys H'=>H'=H/\(∃ k,σ=[k,some (.int (c % 980))])/\ys=((List.range i).map fun k:Nat=>c % 980+(k:Int)).map V.int) ⟨rfl,⟨none,rfl⟩,rfl⟩ ?_ (by decide) ?_ ?_⟩
   ·rintro i σ ys H' _ ⟨_,_,rfl⟩
    simp
   ·rintro i σ ys H' hi ⟨rfl,⟨k,rfl⟩,rfl⟩
    refine gyes ?_
    rw[Int.zero_add]
    refine⟨_,rfl,_,rfl,_,_,rfl,rfl,rfl,⟨_,rfl⟩,?_⟩
    rw[List.range_succ]
    simp
   ·rintro σ ys H' ⟨rfl,_,rfl⟩
    exact fun p hp=>q p hp
  ·rw[dec_int] at hc
   have hc':¬ c/11 % 4=1:=fun z=>hc (decide_eq_true z)
   unfold namesOf at q
   rw[if_neg hc'] at q
   refine⟨_,rfl,_,rfl,_,_,rfl,rfl,_,rfl,_,_,rfl,rfl,⟨by decide,by decide⟩,_,_,rfl,rfl,(by show (0:Int)<9; decide),_,_,rfl,rfl,?_⟩
   refine⟨_,rfl,_,_,rfl,rfl,_,rfl,_,_,rfl,rfl,⟨by decide,by decide⟩,_,_,rfl,rfl,(by show (0:Int)<8; decide),_,_,rfl,rfl,?_⟩
   exact⟨by show 3<=sizeLine; decide,fun l hl=>q l hl⟩
def spDoorsBy (K:PySem.W.Frag):Sp:=fun vs H Q _=>∃ (a ln:Addr) (ns nm:List Int) (start count size:Int) (cnt sz:Nat),vs=[.ref a,.int start,.int count,.int size,.ref ln]/\SqL K H a (ns.map V.int)/\SqL K H ln (nm.map V.int)/\0<=start/\count=(cnt:Int)/\cnt<=100/\size=(sz:Int)/\1<=sz/\sz<=60/\1<=nm.length/\nm.length<=20/\(∀ n∈nm,0<=n/\n<1000) /\
 ∀ l ts H',H l=none->Same H H'->Told K H' l ts->ts.Nodup->Fits sz ts->ts.length<=cnt->Q (.ref l) H'
theorem scDoorsBy:FnScope ["script", "start", "count", "size", "names", "doors", "k", "cell", "door"] ["script", "start", "count", "size", "names"] (defScope sDoorsBy):=⟨rfl,rfl,rfl,by decide +kernel,rfl,by decide +kernel,by decide +kernel⟩
theorem nodup_snoc {α:Type} {l:List α} {x:α} (h:l.Nodup) (n:x∉l):(l++[x]).Nodup:=List.nodup_append.mpr ⟨h,by simp,fun y hy z hz e=>n (by simp at hz; rw[<-hz,← e]; exact hy)⟩
theorem fits_snoc {n:Nat} {ts:List (List Int)} {a m b:Int} (h:Fits n ts) (ra:0<=a/\a<n) (rm:0<=m/\m<1000) (rb:0<=b/\b<n):Fits n (ts++[[a,m,b]]):=fun t ht=>by
 rcases List.mem_append.mp ht with ht | ht
 ·exact h t ht
 ·simp at ht; exact⟨a,m,b,ht,ra,rm,rb⟩
theorem getD_mem {l:List Int} {i:Nat} (h:i<l.length):l.getD i 0∈l:=by
 rw[List.getD_eq_getElem?_getD,List.getElem?_eq_getElem h]; exact List.getElem_mem h
theorem ixm {nm:List Int} (hnl:(0:Int)<((nm.map V.int).length:Nat)) (c d:Int):atI (nm.map V.int) (c/d % ((nm.map V.int).length:Nat))=some (.int (nm.getD (c/d % ((nm.map V.int).length:Nat)).toNat 0)):=by
 rw[atI_int (Int.emod_nonneg _ (by omega)) (Int.emod_lt_of_pos _ hnl) (.int 0),getD_map_int]
def dbCell (ns:List Int) (start:Int) (i:Nat):Int:=(cellAt ns (start+(i:Int))*48271+7*(i:Int)+3) % 2147483647
def dbDoor (ns nm:List Int) (start:Int) (sz i:Nat):List Int:=[dbCell ns start i % sz,nm.getD (dbCell ns start i/61 % ((nm.map V.int).length:Nat)).toNat 0,dbCell ns start i/793 % sz]
theorem ok_doorsby (T:Txt mg) (DC:DefAt K mg "_law_cell_at" sCell ["script", "k"] fC fdC) (GC:FnOk P w K mg base CX0 1 fC fdC ["script", "k"] (spCell K)) (D:DefAt K mg "_law_doors_by" sDoorsBy ["script", "start", "count", "size", "names"] f fd) :
  FnOk P w K mg base CX0 2 f fd ["script", "start", "count", "size", "names"] (spDoorsBy K):=by
 refine D.fn.ok scDoorsBy (fun vs H Q E h=>?_) (fun cdv A outer s H vs Q E hr h=>?_)
 ·obtain⟨a,ln,ns,nm,start,count,size,cnt,sz,rfl,_⟩:=h
  rfl
 ·obtain⟨a,ln,ns,nm,start,_,_,cnt,sz,rfl,hS,hN,h0,rfl,h1,rfl,h2,h3,h4,h5,h6,q⟩:=h
  have hu:_+64<cLine:=Nat.lt_of_le_of_lt (Nat.add_le_add_left (by decide:64<=200) _) (Nat.lt_of_le_of_lt (Nat.add_le_add_right (Nat.le_add_right _ _) _) hr.un)
  refine⟨_,(pss_cons (ps_set (i:=5) scDoorsBy.nd rfl (Or.inl rfl) (pe_lst pa_nil)) (pss_cons (ps_for PassesOwn.never rfl (pi_range1 rfl T.range (pa_cons (pv 2) pa_nil)) (pg_name (i:=6) scDoorsBy.nd rfl (Or.inl rfl)) (pss_cons (ps_set (i:=7) scDoorsBy.nd rfl (Or.inl rfl) (pe_call GC hr rfl DC.mg DC.fn.kp DC.bd .nil pass0 (pa_cons (pv 0) (pa_cons (pe_op op_add (pv 1) (pv 6)) pa_nil)))) (pss_cons (ps_set (i:=7) scDoorsBy.nd rfl (Or.inl rfl) (pe_op op_mod (pe_op op_add (pe_op op_add (pe_op op_mul (pv 7) pe_int) (pe_op op_mul pe_int (pv 6))) pe_int) pe_int)) (pss_cons (ps_set (i:=8) scDoorsBy.nd rfl (Or.inl rfl) (pe_tup (pa_cons (pe_op op_mod (pv 7) (pv 3)) (pa_cons (pe_ix ix_list (pv 4) (pe_op op_mod (pe_op op_fdiv (pv 7) pe_int) (pe_callB call_len_seq rfl T.len PySem.boot_len (pa_cons (pv 4) pa_nil))) (fun _ _=>rfl)) (pa_cons (pe_op op_mod (pe_op op_fdiv (pv 7) pe_int) (pv 3)) pa_nil))))) (pss_one (ps_if (pt_cmpR (op_tnotin hu) (pv 8) (pv 5) rfl) (pss_one (ps_expr (pe_bm PySem.F.plainAttrs_list PySem.F.slot_list_append PySem.F.type_list_append mt_append (pv 5) (pa_cons (pv 8) pa_nil)))) pss_nil)))))) (pss_one (ps_ret (pv 5))))),?_⟩
  refine⟨show 0<=sizeLine by decide,fun l hl=>?_⟩
  refine⟨_,rfl,(cnt:Int),rfl,by omega,by omega,for_range (lo:=0) (n:=cnt) (fun i σ H2=>Same H H2/\(∃ ts,Told K H2 l ts/\ts.Nodup/\Fits sz ts/\ts.length<=i)/\∃ u v x,σ=[some (.ref a),some (.int start),some (.int cnt),some (.int sz),some (.ref ln),some (.ref l),u,v,x]) ?_ ?_ ?_⟩
  ·exact⟨same_new hl,⟨[],⟨[],upd_same,rfl⟩,List.nodup_nil,fun t ht=>absurd ht (by simp),Nat.le_refl _⟩,none,none,none,rfl⟩
  ·rintro i σ H2 hi ⟨s2,⟨ts,to,nd,ft,le⟩,u,v,x,rfl⟩
   rw[Int.zero_add]
   refine⟨_,rfl,_,rfl,_,rfl,_,_,rfl,rfl,a,ns,_,rfl,s2.seq hS,(by show (0:Int)<=start+(i:Int); omega),?_⟩
   refine⟨_,rfl,_,_,rfl,rfl,.inr ⟨by decide,by decide⟩,_,rfl,_,_,rfl,rfl,.inl ⟨by decide,by decide⟩,_,_,rfl,rfl,_,_,rfl,rfl,_,_,rfl,rfl,(by show (0:Int)<2147483647; decide),?_⟩
   have hz2:(0:Int)<sz:=by omega
   have hnl:(0:Int)<((nm.map V.int).length:Nat):=by rw[List.length_map]; omega
   have s2N:=s2.seq hN
   obtain⟨xs,x1,x2⟩:=id to
   refine⟨_,rfl,_,rfl,_,_,rfl,rfl,hz2,_,rfl,_,rfl,_,_,rfl,rfl,⟨by decide,by decide⟩,_,rfl,ln,_,rfl,.inl s2N,_,_,rfl,rfl,hnl,ln,_,_,_,rfl,rfl,s2N,ixm hnl (dbCell ns start i) 61,_,rfl,_,_,rfl,rfl,⟨by decide,by decide⟩,_,rfl,_,_,rfl,rfl,hz2,show 3<=sizeLine by decide,fun p hp=>?_⟩
   have s3:=same_new hp (o:=.tup ((dbDoor ns nm start sz i).map V.int))
   have pt:SqT K _ p ((dbDoor ns nm start sz i).map V.int):=SqT.of (upd_same (H:=H2) (o:=.tup ((dbDoor ns nm start sz i).map V.int)))
   refine⟨_,rfl,_,rfl,p,l,dbDoor ns nm start sz i,ts,xs,rfl,pt,rfl,SqL.of (s3 _ _ x1),DenL.mono s3 _ _ x2,_,rfl,ite2 (fun hc=>?_) (fun hc=>?_)⟩
   ·have nw:dbDoor ns nm start sz i∉ts:=by simpa using hc
    have xl:xs.length=ts.length:=Told.len x2
    refine⟨_,rfl,.inl ⟨rfl,_,SqL.of (s3 _ _ x1)⟩,_,rfl,l,xs,_,rfl,rfl,s3 _ _ x1,by rw[xl]; exact small1000 (by omega),?_⟩
    refine⟨fun b o e=>?_,⟨ts++[dbDoor ns nm start sz i],Told.snoc (s3 _ _ x1) (DenL.mono s3 _ _ x2) pt,nodup_snoc nd nw,fits_snoc ft ?_ ?_ ?_,by rw[List.length_append]; simp; omega⟩,_,_,_,rfl⟩
    ·rw[upd_ne (ne_of_none e hl)]; exact s3 _ _ (s2 _ _ e)
    ·exact⟨Int.emod_nonneg _ (by omega),Int.emod_lt_of_pos _ hz2⟩
    ·have hm:(dbCell ns start i/61 % ((nm.map V.int).length:Nat)).toNat<nm.length:=by
      have k1:=Int.emod_nonneg (dbCell ns start i/61) (show (((nm.map V.int).length:Nat):Int)≠0 by omega)
      have k2:=Int.emod_lt_of_pos (dbCell ns start i/61) hnl
      rw[List.length_map] at k1 k2 ⊢
      omega
     have:=h6 _ (getD_mem hm)
     omega
    ·exact⟨Int.emod_nonneg _ (by omega),Int.emod_lt_of_pos _ hz2⟩
   ·exact⟨s2.trans s3,⟨ts,Told.same s3 to,nd,ft,by omega⟩,_,_,_,rfl⟩
  ·rintro σ H2 ⟨s2,⟨ts,to,nd,ft,le⟩,u,v,x,rfl⟩
   exact⟨_,rfl,q l ts H2 hl s2 to nd ft le⟩
end
end K17
namespace K17
open PySem L2 L3
section
variable {P:Program} {w:World} {K:PySem.W.Frag} {mg:Str->Option Value} {base:Heap} {f fC fN fB fL fV fI fO C CE CR CD CN CT:Addr} {fd fdC fdN fdB fdL fdV fdI fdO:FuncData}
def spColoursBy:Sp:=fun vs H Q _=>∃ (cell size:Int) (sz:Nat),vs=[.int cell,.int size]/\size=(sz:Int)/\sz<=60/\∀ (l:Addr) (cs:List Int) (H':Hp),H l=none->Same H H'->H' l=some (.lst (cs.map V.int))->cs.length=sz->(∀ c∈cs,(0:Int)<=c/\c<1000)->Q (.ref l) H'
theorem scColoursBy:FnScope ["cell", "size", "out", "base", "a"] ["cell", "size"] (defScope sColoursBy):=⟨rfl,rfl,rfl,by decide +kernel,rfl,by decide +kernel,by decide +kernel⟩
theorem pick3 (c:Int):∃ v:Int,atI [V.int 0,V.int 10,V.int 100] (c/5 % (1+c % 3))=some (.int v)/\0<=v/\v<=100:=by
 have h1:0<1+c % 3:=by omega
 have h2:0<=c/5 % (1+c % 3):=Int.emod_nonneg _ (by omega)
 have h3:c/5 % (1+c % 3)<1+c % 3:=Int.emod_lt_of_pos _ h1
 have h4:c/5 % (1+c % 3)=0\/c/5 % (1+c % 3)=1\/c/5 % (1+c % 3)=2:=by omega
 rcases h4 with e | e | e <;> rw[e]
 ·exact⟨0,at0 _ _,by omega,by omega⟩
 ·exact⟨10,at1 _ _ _,by omega,by omega⟩
 ·exact⟨100,at2 _ _ _ _,by omega,by omega⟩
theorem ok_coloursby (T:Txt mg) (D:DefAt K mg "_law_colours_by" sColoursBy ["cell", "size"] f fd):FnOk P w K mg base CX0 1 f fd ["cell", "size"] spColoursBy:=by
 refine D.fn.ok scColoursBy (fun vs H Q E h=>?_) (fun cdv A outer s H vs Q E hr h=>?_)
 ·obtain⟨cell,size,sz,rfl,_⟩:=h
  rfl
 ·obtain⟨cell,_,sz,rfl,rfl,h1,q⟩:=h
  refine⟨_,(pss_cons (ps_set (i:=2) scColoursBy.nd rfl (Or.inl rfl) (pe_lst pa_nil)) (pss_cons (ps_set (i:=3) scColoursBy.nd rfl (Or.inl rfl) (pe_op op_mod (pv 0) pe_int)) (pss_cons (ps_for PassesOwn.never rfl (pi_range1 rfl T.range (pa_cons (pv 1) pa_nil)) (pg_name (i:=4) scColoursBy.nd rfl (Or.inl rfl)) (pss_cons (ps_set (i:=0) scColoursBy.nd rfl (Or.inl rfl) (pe_op op_mod (pe_op op_add (pe_op op_mul (pv 0) pe_int) pe_int) pe_int)) (pss_one (ps_expr (pe_bm PySem.F.plainAttrs_list PySem.F.slot_list_append PySem.F.type_list_append mt_append (pv 2) (pa_cons (pe_op op_add (pv 3) (pe_ix ix_list (pe_lst (pa_cons pe_int (pa_cons pe_int (pa_cons pe_int pa_nil)))) (pe_op op_mod (pe_op op_fdiv (pv 0) pe_int) (pe_op op_add pe_int (pe_op op_mod (pv 0) pe_int))) (fun _ _=>rfl))) pa_nil)))))) (pss_one (ps_ret (pv 2)))))),?_⟩
  refine⟨show 0<=sizeLine by decide,fun l hl=>?_⟩
  refine⟨_,rfl,_,_,rfl,rfl,(by show (0:Int)<890; decide),?_⟩
  refine⟨_,rfl,(sz:Int),rfl,by omega,by omega,for_range (lo:=0) (n:=sz) (fun i σ H2=>Same H H2/\(∃ cs:List Int,H2 l=some (.lst (cs.map V.int))/\cs.length=i/\∀ c∈cs,(0:Int)<=c/\c<1000)/\∃ cl u,σ=[some (.int cl),some (.int sz),some (.ref l),some (.int (cell % 890)),u]) ?_ ?_ ?_⟩
  ·exact⟨same_new hl,⟨[],upd_same,rfl,fun c hc=>absurd hc (by simp)⟩,cell,none,rfl⟩
  ·rintro i σ H2 hi ⟨s2,⟨cs,e2,el,er⟩,cl,u,rfl⟩
   rw[Int.zero_add]
   refine⟨_,rfl,_,_,rfl,rfl,.inr ⟨by decide,by decide⟩,_,_,rfl,rfl,_,_,rfl,rfl,(by show (0:Int)<2147483647; decide),?_⟩
   obtain⟨v,hv,v0,v1⟩:=pick3 ((cl*48271+13) % 2147483647)
   have hb:0<=cell % 890/\cell % 890<890:=by omega
   refine⟨_,rfl,.inl ⟨rfl,_,SqL.of e2⟩,_,rfl,show 3<=sizeLine by decide,fun p hp=>?_⟩
   have s3:=same_new hp (o:=.lst [V.int 0,V.int 10,V.int 100])
   have nlp:l≠p:=ne_of_none e2 hp
   refine⟨_,rfl,_,_,rfl,rfl,⟨by decide,by decide⟩,_,rfl,_,_,rfl,rfl,(by show (0:Int)<3; decide),_,_,rfl,rfl,_,_,rfl,rfl,(by show (0:Int)<1+((cl*48271+13) % 2147483647) % 3; omega),p,_,_,_,rfl,rfl,SqL.of upd_same,hv,_,_,rfl,rfl,l,_,_,rfl,rfl,s3 _ _ e2,by rw[List.length_map,el]; exact small1000 (by omega),?_⟩
   refine⟨fun b o e=>?_,⟨cs++[cell % 890+v],?_,by rw[List.length_append,el]; rfl,fun c hc=>?_⟩,_,_,rfl⟩
   ·rw[upd_ne (ne_of_none e hl)]; exact s3 _ _ (s2 _ _ e)
   ·rw[upd_same,List.map_append]; rfl
   ·rcases List.mem_append.mp hc with hc | hc
    ·exact er c hc
    ·simp at hc; omega
  ·rintro σ H2 ⟨s2,⟨cs,e2,el,er⟩,cl,u,rfl⟩
   exact⟨_,rfl,q l cs H2 hl s2 e2 el er⟩
theorem not_of {p:Prop} [Decidable p] (h:(if true=true then !decide p else decide p)=true):¬ p:=by simpa using h
theorem ToldX.same {H H':Hp} {l:Addr} {ts:List (List Int)} {xs:List V} (h:ToldX K H l ts xs) (s:Same H H'):ToldX K H' l ts xs:=⟨s _ _ h.1,DenL.mono s _ _ h.2⟩
theorem ToldX.put {H:Hp} {l m:Addr} {ts:List (List Int)} {xs ys zs:List V} (h:ToldX K H l ts xs) (hm:H m=some (.lst ys)) (ne:l≠m):ToldX K (upd H m (.lst zs)) l ts xs:=by
 obtain⟨h1,h2⟩:=h
 obtain⟨ps,g1,g2,g3⟩:=tups_denL h2
 refine⟨by rw[upd_ne ne]; exact h1,?_⟩
 rw[g2,← g1]
 refine denL_tups fun q hq=>?_
 rcases g3 q hq with (z | ⟨o,z⟩) | z
 ·exact .inl (.inl (by rw[upd_ne (ne_of z hm (fun e=>by cases e))]; exact z))
 ·exact .inl (.inr ⟨o,by rw[upd_ne (ne_of z hm (fun e=>by cases e))]; exact z⟩)
 ·exact .inr z
def spCover (K:PySem.W.Frag):Sp:=fun vs H Q _=>∃ (ld:Addr) (ts:List (List Int)) (many size cell:Int) (mn sz:Nat),vs=[.ref ld,.int many,.int size,.int cell]/\Told K H ld ts/\many=(mn:Int)/\size=(sz:Int)/\1<=mn/\mn<=sz/\sz<=60/\Fits mn ts/\ts.length*sz<=900 /\
 ∀ l ts' H',H l=none->Same H H'->Told K H' l ts'->ts'.Nodup->Fits sz ts'->ts'.length<=ts.length*sz->Q (.ref l) H'
theorem scCover:FnScope ["doors", "many", "size", "cell", "out", "a", "name", "b", "r", "goals", "door"] ["doors", "many", "size", "cell"] (defScope sCover):=⟨rfl,rfl,rfl,by decide +kernel,rfl,by decide +kernel,by decide +kernel⟩
theorem ok_cover (T:Txt mg) (D:DefAt K mg "_law_cover" sCover ["doors", "many", "size", "cell"] f fd):FnOk P w K mg base CX0 1 f fd ["doors", "many", "size", "cell"] (spCover K):=by
 refine D.fn.ok scCover (fun vs H Q E h=>?_) (fun cdv A outer s H vs Q E hr h=>?_)
 ·obtain⟨ld,ts,many,size,cell,mn,sz,rfl,_⟩:=h
  rfl
 ·obtain⟨ld,ts,_,_,cell,mn,sz,rfl,to,rfl,rfl,n1,n2,n3,ft,n4,q⟩:=h
  have hu:=hu64 hr
  refine⟨_,(pss_cons (ps_set (i:=4) scCover.nd rfl (Or.inl rfl) (pe_lst pa_nil)) (pss_cons (ps_for PassesOwn.never rfl (pi_list (pv 0)) (pg_tup rfl (pgs_cons (pg_name (i:=5) scCover.nd rfl (Or.inl rfl)) (pgs_cons (pg_name (i:=6) scCover.nd rfl (Or.inl rfl)) (pgs_cons (pg_name (i:=7) scCover.nd rfl (Or.inl rfl)) pgs_nil)))) (pss_one (ps_for PassesOwn.never rfl (pi_range3 rfl T.range (pa_cons (pv 5) (pa_cons (pv 2) (pa_cons (pv 1) pa_nil)))) (pg_name (i:=8) scCover.nd rfl (Or.inl rfl)) (pss_cons (ps_set (i:=3) scCover.nd rfl (Or.inl rfl) (pe_op op_mod (pe_op op_add (pe_op op_mul (pv 3) pe_int) pe_int) pe_int)) (pss_cons (ps_setComp (i:=9) (o:=(defScope sCover)) (N:=["doors", "many", "size", "cell", "out", "a", "name", "b", "r", "goals", "door"]) (N':=["t"]) (src:=[none]) ⟨by rfl,by decide +kernel,by decide +kernel,by decide +kernel,by rfl,by decide +kernel⟩ scCover.nd rfl rfl (pi_range3 rfl T.range (pa_cons (pv 7) (pa_cons (pv 2) (pa_cons (pv 1) pa_nil)))) (fun C s₀ H₀ ex=>(pg_name (i:=0) (show (["t"]:List Str).Nodup by decide +kernel) rfl (Or.inl rfl))) (fun C s₀ H₀ ex=>pifs_nil) (fun C s₀ H₀ ex=>(pv 0))) (pss_cons (ps_set (i:=10) scCover.nd rfl (Or.inl rfl) (pe_tup (pa_cons (pv 8) (pa_cons (pv 6) (pa_cons (pe_ix ix_list (pv 9) (pe_op op_mod (pe_op op_fdiv (pv 3) pe_int) (pe_callB call_len_seq rfl T.len PySem.boot_len (pa_cons (pv 9) pa_nil))) (fun _ _=>rfl)) pa_nil))))) (pss_one (ps_if (pt_cmpR (op_tnotin hu) (pv 10) (pv 4) rfl) (pss_one (ps_expr (pe_bm PySem.F.plainAttrs_list PySem.F.slot_list_append PySem.F.type_list_append mt_append (pv 4) (pa_cons (pv 10) pa_nil)))) pss_nil)))))))) (pss_one (ps_ret (pv 4))))),?_⟩
  refine⟨show 0<=sizeLine by decide,fun l hl=>?_⟩
  have s1:=same_new hl (o:=.lst [])
  obtain⟨xs,x1,x2⟩:=id (Told.same s1 to)
  have xl:xs.length=ts.length:=Told.len x2
  have hld:ld≠l:=by
   obtain⟨ys,y1,_⟩:=to
   exact ne_of_none y1 hl
  refine⟨_,rfl,ld,rfl,⟨_,SqL.of x1⟩,for_list (K:=K) (a:=ld) (xs:=xs) (fun i σ H2=>Same H H2/\ToldX K H2 ld ts xs/\(∃ us,Told K H2 l us/\us.Nodup/\Fits sz us/\us.length<=i*sz)/\∃ cl v5 v6 v7 v8 v9 v10,σ=[some (.ref ld),some (.int mn),some (.int sz),some (.int cl),some (.ref l),v5,v6,v7,v8,v9,v10]) ?_ ?_ ?_ ?_⟩
  ·exact⟨s1,⟨x1,x2⟩,⟨[],⟨[],upd_same,rfl⟩,List.nodup_nil,fun t ht=>absurd ht (by simp),by simp⟩,cell,none,none,none,none,none,none,rfl⟩
  ·rintro i σ H2 hi ⟨_,⟨e,y⟩,_⟩
   exact SqL.of e
  ·rintro i x σ H2 hx ⟨s2,tx,⟨us,tu,und,uft,ule⟩,cl,v5,v6,v7,v8,v9,v10,rfl⟩
   obtain⟨t,pt,ht,rfl,hpt⟩:=tx.at hx
   obtain⟨a,m,b,rfl,ra,rm,rb⟩:=ft t (List.mem_of_getElem? ht)
   have il:i<ts.length:=(List.getElem?_eq_some_iff.mp ht).1
   have bnd:(i+1)*sz<=900:=Nat.le_trans (Nat.mul_le_mul_right sz il) n4
   have bnd2:i*sz+sz<=900:=by rw[<-Nat.succ_mul]; exact bnd
   have hm0:(0:Int)<mn:=by omega
   have ca:=cnt_le (a:=a) (b:=(sz:Int)) (c:=(mn:Int)) hm0
   have ca':cntR a sz mn<=sz:=by
    rw[if_pos (by omega)] at ca
    omega
   refine⟨pt,_,rfl,hpt,rfl,_,_,rfl,_,_,rfl,_,_,rfl,rfl,?_⟩
   refine⟨_,rfl,_,rfl,_,rfl,a,(sz:Int),(mn:Int),rfl,by omega,by omega,by omega,for_range3 (fun j σ H3=>Same H H3/\ToldX K H3 ld ts xs/\(∃ us,Told K H3 l us/\us.Nodup/\Fits sz us/\us.length<=i*sz+j)/\∃ cl v8 v9 v10,σ=[some (.ref ld),some (.int mn),some (.int sz),some (.int cl),some (.ref l),some (.int a),some (.int m),some (.int b),v8,v9,v10]) ?_ ?_ ?_⟩
   ·exact⟨s2,tx,⟨us,tu,und,uft,by omega⟩,cl,_,_,_,rfl⟩
   ·rintro j σ H3 hj ⟨s3,tx3,⟨us,tu,und,uft,ule⟩,cl,v8,v9,v10,rfl⟩
    have rr:(a+(j:Int)*mn)<sz:=cnt_in hm0 hj
    have rr0:0<=a+(j:Int)*mn:=by
     have:=Int.mul_nonneg (show (0:Int)<=j by omega) (show (0:Int)<=mn by omega)
     omega
    refine⟨_,rfl,_,_,rfl,rfl,.inr ⟨by decide,by decide⟩,_,_,rfl,rfl,_,_,rfl,rfl,(by show (0:Int)<2147483647; decide),?_⟩
    have cb:=cnt_le (a:=b) (b:=(sz:Int)) (c:=(mn:Int)) hm0
    have cb':cntR b sz mn<=sz:=by
     rw[if_pos (by omega)] at cb
     omega
    have cbp:0<cntR b sz mn:=cnt_pos hm0 (by omega)
    refine⟨_,rfl,_,rfl,_,rfl,b,(sz:Int),(mn:Int),rfl,by omega,by omega,by omega,turns_range3 (fun k σ ys H4=>H4=H3/\(∃ u,σ=[u])/\ys=((List.range k).map fun g:Nat=>b+(g:Int)*mn).map V.int) ⟨rfl,⟨none,rfl⟩,rfl⟩ ?_ (Nat.le_of_lt (small1000 (by omega))) ?_ ?_⟩
    ·rintro k σ ys H4 _ ⟨_,_,rfl⟩
     simp
    ·rintro k σ ys H4 hk ⟨rfl,⟨u,rfl⟩,rfl⟩
     refine gyes ?_
     refine⟨_,rfl,rfl,⟨_,rfl⟩,?_⟩
     rw[List.range_succ]
     simp
    ·rintro σ ys H4 ⟨rfl,_,rfl⟩
     intro lg hlg
     generalize hgs:((List.range (cntR b sz mn)).map fun g:Nat=>b+(g:Int)*mn)=gs
     have gl:gs.length=cntR b sz mn:=by rw[<-hgs]; simp
     have gr:∀ g∈gs,0<=g/\g<(sz:Int):=fun g hg=>by
      rw[<-hgs] at hg
      obtain⟨k,hk,rfl⟩:=List.mem_map.mp hg
      rw[List.mem_range] at hk
      have h1:=cnt_in hm0 hk
      have h2:=Int.mul_nonneg (show (0:Int)<=k by omega) (show (0:Int)<=mn by omega)
      omega
     have s4:=same_new hlg (o:=.lst (gs.map V.int))
     have hgl:(0:Int)<((gs.map V.int).length:Nat):=by rw[List.length_map]; omega
     refine⟨_,rfl,_,rfl,_,rfl,_,rfl,_,_,rfl,rfl,⟨by decide,by decide⟩,_,rfl,lg,_,rfl,.inl (SqL.of upd_same),_,_,rfl,rfl,hgl,lg,_,_,_,rfl,rfl,SqL.of upd_same,ixm hgl ((cl*48271+19) % 2147483647) 3,show 3<=sizeLine by decide,fun p hp=>?_⟩
     have hix:(((cl*48271+19) % 2147483647)/3 % ((gs.map V.int).length:Nat)).toNat<gs.length:=by
      have k1:=Int.emod_nonneg (((cl*48271+19) % 2147483647)/3) (show (((gs.map V.int).length:Nat):Int)≠0 by omega)
      have k2:=Int.emod_lt_of_pos (((cl*48271+19) % 2147483647)/3) hgl
      rw[List.length_map] at k1 k2 ⊢
      omega
     have hgd:=gr _ (getD_mem hix)
     have s5:=same_new hp (o:=.tup ([a+(j:Int)*mn,m,gs.getD (((cl*48271+19) % 2147483647)/3 % ((gs.map V.int).length:Nat)).toNat 0].map V.int))
     have p5:SqT K _ p ([a+(j:Int)*mn,m,gs.getD (((cl*48271+19) % 2147483647)/3 % ((gs.map V.int).length:Nat)).toNat 0].map V.int):=SqT.of (upd_same (H:=upd H4 lg (.lst (gs.map V.int))) (o:=.tup ([a+(j:Int)*mn,m,gs.getD (((cl*48271+19) % 2147483647)/3 % ((gs.map V.int).length:Nat)).toNat 0].map V.int)))
     have s45:=s4.trans s5
     obtain⟨ys,y1,y2⟩:=id (Told.same s45 tu)
     have yl:ys.length=us.length:=Told.len y2
     refine⟨_,rfl,_,rfl,p,l,_,us,ys,rfl,p5,rfl,SqL.of y1,y2,_,rfl,ite2 (fun hc=>?_) (fun hc=>?_)⟩
     ·have nw:=not_of hc
      refine⟨_,rfl,.inl ⟨rfl,_,SqL.of y1⟩,_,rfl,l,ys,_,rfl,rfl,y1,by rw[yl]; exact small1000 (by omega),?_⟩
      refine⟨fun b o e=>?_,(tx3.same s45).put y1 hld,⟨us++[_],Told.snoc y1 y2 p5,nodup_snoc und nw,fits_snoc uft ⟨rr0,rr⟩ rm hgd,by rw[List.length_append]; simp; omega⟩,_,_,_,_,rfl⟩
      rw[upd_ne (ne_of_none e hl)]; exact s45 _ _ (s3 _ _ e)
     ·exact⟨s3.trans s45,tx3.same s45,⟨us,Told.same s45 tu,und,uft,by omega⟩,_,_,_,_,rfl⟩
   ·rintro σ H3 ⟨s3,tx3,⟨us,tu,und,uft,ule⟩,cl,v8,v9,v10,rfl⟩
    refine⟨s3,tx3,⟨us,tu,und,uft,?_⟩,cl,_,_,_,_,_,_,rfl⟩
    rw[Nat.add_mul,Nat.one_mul]; omega
  ·rintro σ H2 ⟨s2,tx,⟨us,tu,und,uft,ule⟩,cl,v5,v6,v7,v8,v9,v10,rfl⟩
   exact⟨_,rfl,q l us H2 hl s2 tu und uft (by rw[xl] at ule; exact ule)⟩
end
end K17
namespace K17
open PySem L2 L3
section
variable {P:Program} {w:World} {K:PySem.W.Frag} {mg:Str->Option Value} {base:Heap} {f fC fN fB fL fV:Addr} {fd fdC fdN fdB fdL fdV:FuncData}
def spDrawn (K:PySem.W.Frag):Sp:=fun vs H Q _=>∃ (a:Addr) (ns:List Int),vs=[.ref a]/\SqL K H a (ns.map V.int) /\
 ∀ (p lc ld:Addr) (cs:List Int) (ts:List (List Int)) (H':Hp),H lc=none->H ld=none->lc≠ld->Same H H'->H' p=some (.tup [.ref lc,.ref ld])->H' lc=some (.lst (cs.map V.int))->Told K H' ld ts->ts.Nodup->Fits cs.length ts->1<=cs.length->cs.length<=34->ts.length<=399->(∀ c∈cs,(0:Int)<=c/\c<1000)->Q (.ref p) H'
theorem scDrawn:FnScope ["script", "first", "many", "names", "doors", "colours", "size", "spoil", "door"] ["script"] (defScope sDrawn):=⟨rfl,rfl,rfl,by decide +kernel,rfl,by decide +kernel,by decide +kernel⟩
theorem fits_mono {n m:Nat} {ts:List (List Int)} (h:Fits n ts) (e:n<=m):Fits m ts:=fun t ht=>by
 obtain⟨a,x,b,e1,e2,e3,e4⟩:=h t ht
 exact⟨a,x,b,e1,by omega,e3,by omega⟩
theorem Told.erase {H:Hp} {l:Addr} {ts:List (List Int)} {xs:List V} (h1:H l=some (.lst xs)) (h2:DenL K H (ts.map tD) xs) (k:Nat):Told K (upd H l (.lst (xs.eraseIdx k))) l (ts.eraseIdx k):=by
 obtain⟨ps,g1,g2,g3⟩:=tups_denL h2
 subst g1 g2
 refine⟨_,upd_same,?_⟩
 rw[eraseIdx_mapT,eraseIdx_mapT]
 refine denL_tups fun q hq=>?_
 rcases g3 q (List.mem_of_mem_eraseIdx hq) with (z | ⟨o,z⟩) | z
 ·exact .inl (.inl (by rw[upd_ne (ne_of z h1 (fun e=>by cases e))]; exact z))
 ·exact .inl (.inr ⟨o,by rw[upd_ne (ne_of z h1 (fun e=>by cases e))]; exact z⟩)
 ·exact .inr z
def spDoor (sp:Int) (nm:List Int) (sz:Nat):List Int:=[sp/3 % sz,nm.getD (sp/7 % 3).toNat 0,sp/11 % sz]
theorem ok_drawn (T:Txt mg) (DC:DefAt K mg "_law_cell_at" sCell ["script", "k"] fC fdC) (GC:FnOk P w K mg base CX0 1 fC fdC ["script", "k"] (spCell K)) (DN:DefAt K mg "_law_names" sNames ["cell"] fN fdN) (GN:FnOk P w K mg base CX0 1 fN fdN ["cell"] spNames)
  (DB:DefAt K mg "_law_doors_by" sDoorsBy ["script", "start", "count", "size", "names"] fB fdB) (GB:FnOk P w K mg base CX0 2 fB fdB ["script", "start", "count", "size", "names"] (spDoorsBy K)) (DL:DefAt K mg "_law_colours_by" sColoursBy ["cell", "size"] fL fdL) (GL:FnOk P w K mg base CX0 1 fL fdL ["cell", "size"] spColoursBy)
  (DV:DefAt K mg "_law_cover" sCover ["doors", "many", "size", "cell"] fV fdV) (GV:FnOk P w K mg base CX0 1 fV fdV ["doors", "many", "size", "cell"] (spCover K)) (D:DefAt K mg "_law_drawn" sDrawn ["script"] f fd):FnOk P w K mg base CX0 3 f fd ["script"] (spDrawn K):=by
 refine D.fn.ok scDrawn (fun vs H Q E h=>?_) (fun cdv A outer s H vs Q E hr h=>?_)
 ·obtain⟨a,ns,rfl,_⟩:=h
  rfl
 ·obtain⟨a,ns,rfl,hS,q⟩:=h
  have hr1:Room 1 _:=hr.mono (by decide)
  have hu:=hu64 hr
  have R2:∃ t2,PSs (cxOf CX0 P w K mg base ["script", "first", "many", "names", "doors", "colours", "size", "spoil", "door"] "_law_drawn" (defScope sDrawn) f cdv A outer s H E).nox ((defBody sDrawn).drop 11) t2 /\
    ∀ (H2:Hp) (v1 v2 v3 v6 v8:Option V) (sp:Int) (lc ld:Addr) (cs:List Int) (ts:List (List Int)),H lc=none->H ld=none->lc≠ld->Same H H2->H2 lc=some (.lst (cs.map V.int))->Told K H2 ld ts->ts.Nodup->Fits cs.length ts->1<=cs.length->cs.length<=34->ts.length<=399->(∀ c∈cs,(0:Int)<=c/\c<1000) ->
     t2 { nx:=fun _ H'=>Q .non H',rt:=Q } [some (.ref a),v1,v2,v3,some (.ref ld),some (.ref lc),v6,some (.int sp),v8] H2:=by
   refine⟨_,(pss_cons (ps_if (PW.pt (pw_and (pt_cmpR op_eq (pe_op op_mod (pv 7) pe_int) pe_int (nomark _)) (pw_and1 (pt_cmpR op_gt (pe_callB call_len_seq rfl T.len PySem.boot_len (pa_cons (pv 4) pa_nil)) pe_int (nomark _))))) (pss_one (ps_expr (pe_bm PySem.F.plainAttrs_list PySem.F.slot_list_pop PySem.F.type_list_pop mt_popAt (pv 4) (pa_cons (pe_op op_mod (pe_op op_fdiv (pv 7) pe_int) (pe_callB call_len_seq rfl T.len PySem.boot_len (pa_cons (pv 4) pa_nil))) pa_nil)))) pss_nil) (pss_one (ps_ret (pe_tup (pa_cons (pv 5) (pa_cons (pv 4) pa_nil)))))),?_⟩
   intro H2 v1 v2 v3 v6 v8 sp lc ld cs ts h1 h2 h3 s2 e2 to nd ft n1 n2 n3 cr
   have last:∀ (H3:Hp) (ts:List (List Int)),Same H H3->H3 lc=some (.lst (cs.map V.int))->Told K H3 ld ts->ts.Nodup->Fits cs.length ts->ts.length<=399 ->
     ∀ p,H3 p=none->Q (.ref p) (upd H3 p (.tup [.ref lc,.ref ld])):=fun H3 ts s3 e3 t3 nd3 f3 l3 p hp=>
    q p lc ld cs ts _ h1 h2 h3 (s3.trans (same_new hp)) upd_same ((same_new hp) _ _ e3) (Told.same (same_new hp) t3) nd3 f3 n1 n2 l3 cr
   obtain⟨xs,x1,x2⟩:=id to
   have xl:xs.length=ts.length:=Told.len x2
   refine⟨_,rfl,_,_,rfl,rfl,(by show (0:Int)<3; decide),rfl,_,rfl,ite2 (fun hc=>?_) (fun hc=>?_)⟩
   ·refine⟨_,rfl,ld,xs,rfl,.inl (SqL.of x1),_,_,rfl,rfl,_,rfl,ite2 (fun hc=>?_) (fun hc=>?_)⟩
    ·have hc':(0:Int)<xs.length:=of_decide_eq_true hc
     have k1:=Int.emod_nonneg (sp/3) (show ((xs.length:Nat):Int)≠0 by omega)
     have k2:=Int.emod_lt_of_pos (sp/3) hc'
     have hix:seqIndex? (sp/3 % (xs.length:Nat)) xs.length=some (sp/3 % (xs.length:Nat)).toNat:=by
      unfold seqIndex?
      have g1:¬ (sp/3 % (xs.length:Nat))<0:=by omega
      simp only[g1,if_false]
      rw[if_pos (by simp; omega)]
     have hl2:(sp/3 % (xs.length:Nat)).toNat<xs.length:=by omega
     refine⟨_,rfl,.inl ⟨rfl,_,SqL.of x1⟩,_,rfl,_,_,rfl,rfl,⟨by decide,by decide⟩,_,rfl,ld,xs,rfl,.inl (SqL.of x1),_,_,rfl,rfl,hc',ld,xs,_,_,xs[(sp/3 % (xs.length:Nat)).toNat],rfl,rfl,x1,by omega,by omega,hix,List.getElem?_eq_getElem hl2,?_⟩
     refine⟨_,rfl,_,rfl,show 2<=sizeLine by decide,fun p hp=>last _ (ts.eraseIdx (sp/3 % (xs.length:Nat)).toNat) (fun b o e=>?_) ?_ (Told.erase x1 x2 _) (nd.sublist (List.eraseIdx_sublist _ _)) (fun t ht=>ft t (List.mem_of_mem_eraseIdx ht)) ?_ p hp⟩
     ·rw[upd_ne (ne_of_none e h2)]; exact s2 _ _ e
     ·rw[upd_ne h3]; exact e2
     ·have:=List.length_eraseIdx_le ts (sp/3 % (xs.length:Nat)).toNat
      omega
    ·exact⟨_,rfl,_,rfl,show 2<=sizeLine by decide,fun p hp=>last H2 ts s2 e2 to nd ft n3 p hp⟩
   ·exact⟨_,rfl,_,rfl,show 2<=sizeLine by decide,fun p hp=>last H2 ts s2 e2 to nd ft n3 p hp⟩
  obtain⟨t2,hp2,hq2⟩:=R2
  have R1:∃ t1,PSs (cxOf CX0 P w K mg base ["script", "first", "many", "names", "doors", "colours", "size", "spoil", "door"] "_law_drawn" (defScope sDrawn) f cdv A outer s H E).nox ((defBody sDrawn).drop 7) t1 /\
    ∀ (H1:Hp) (first:Int) (mn sz:Nat) (ln ld lc:Addr) (nm:List Int) (cs:List Int) (ts:List (List Int)),Same H H1->1<=mn->mn<=sz->sz<=34->3<=nm.length->(∀ n∈nm,0<=n/\n<1000)->SqL K H1 ln (nm.map V.int)->Told K H1 ld ts->Fits mn ts->ts.length<=10->H1 lc=some (.lst (cs.map V.int))->cs.length=mn->(∀ c∈cs,(0:Int)<=c/\c<1000) ->
     t1 { nx:=fun _ H'=>Q .non H',rt:=Q } [some (.ref a),some (.int first),some (.int mn),some (.ref ln),some (.ref ld),some (.ref lc),some (.int sz),none,none] H1:=by
   refine⟨_,(pss_cons (ps_set (i:=4) scDrawn.nd rfl (Or.inl rfl) (pe_call GV hr1 rfl DV.mg DV.fn.kp DV.bd .nil pass0 (pa_cons (pv 4) (pa_cons (pv 2) (pa_cons (pv 6) (pa_cons (pe_call GC hr1 rfl DC.mg DC.fn.kp DC.bd .nil pass0 (pa_cons (pv 0) (pa_cons pe_int pa_nil))) pa_nil)))))) (pss_cons (ps_set (i:=5) scDrawn.nd rfl (Or.inr rfl) (pe_comp (o:=(defScope sDrawn)) (N:=["script", "first", "many", "names", "doors", "colours", "size", "spoil", "door"]) (N':=["a", "colours", "many"]) (src:=[none,some 5,some 2]) ⟨by rfl,by decide +kernel,by decide +kernel,by decide +kernel,by rfl,by decide +kernel⟩ (pi_range1 rfl T.range (pa_cons (pv 6) pa_nil)) (fun C s₀ H₀ ex=>(pg_name (i:=0) (show (["a", "colours", "many"]:List Str).Nodup by decide +kernel) rfl (Or.inl rfl))) (fun C s₀ H₀ ex=>pifs_nil) (fun C s₀ H₀ ex=>(pe_ix (ix_listK (K:=K)) (pv 1) (pe_op op_mod (pv 0) (pv 2)) (fun _ _=>rfl))))) (pss_cons (ps_set (i:=7) scDrawn.nd rfl (Or.inl rfl) (pe_call GC hr1 rfl DC.mg DC.fn.kp DC.bd .nil pass0 (pa_cons (pv 0) (pa_cons pe_int pa_nil)))) (pss_cons (ps_if (pt_cmpR op_eq (pe_op op_mod (pv 7) pe_int) pe_int (nomark _)) (pss_cons (ps_set (i:=8) scDrawn.nd rfl (Or.inl rfl) (pe_tup (pa_cons (pe_op op_mod (pe_op op_fdiv (pv 7) pe_int) (pv 6)) (pa_cons (pe_ix ix_list (pv 3) (pe_op op_mod (pe_op op_fdiv (pv 7) pe_int) pe_int) (fun _ _=>rfl)) (pa_cons (pe_op op_mod (pe_op op_fdiv (pv 7) pe_int) (pv 6)) pa_nil))))) (pss_one (ps_if (pt_cmpR (op_tnotin hu) (pv 8) (pv 4) rfl) (pss_one (ps_expr (pe_bm PySem.F.plainAttrs_list PySem.F.slot_list_append PySem.F.type_list_append mt_append (pv 4) (pa_cons (pv 8) pa_nil)))) pss_nil))) pss_nil) hp2)))),?_⟩
   intro H1 first mn sz ln ld lc nm cs ts s1 n1 n2 n3 n4 nr hN to ft n5 ec el cr
   have hS1:=s1.seq hS
   have m34:ts.length*sz<=340:=Nat.mul_le_mul (show ts.length<=10 from n5) (show sz<=34 from n3)
   refine⟨_,rfl,_,rfl,_,rfl,_,rfl,a,ns,_,rfl,hS1,by decide,ld,ts,_,_,_,mn,sz,rfl,to,rfl,rfl,n1,n2,by omega,ft,by omega,fun l ts' H2 hl s2 to2 nd2 ft2 l2=>?_⟩
   have ec2:=s2 _ _ ec
   have hm0:(0:Int)<mn:=by omega
   refine⟨_,rfl,(sz:Int),rfl,by omega,by omega,turns_range (lo:=0) (n:=sz) (fun i σ ys H'=>H'=H2/\(∃ u,σ=[u,some (.ref lc),some (.int mn)])/\ys=((List.range i).map fun k:Nat=>cs.getD ((k:Int) % mn).toNat 0).map V.int) ⟨rfl,⟨none,rfl⟩,rfl⟩ ?_ (Nat.le_of_lt (small1000 (by omega))) ?_ ?_⟩
   ·rintro i σ ys H' _ ⟨_,_,rfl⟩
    simp
   ·rintro i σ ys H' hi ⟨rfl,⟨u,rfl⟩,rfl⟩
    refine gyes ?_
    rw[Int.zero_add]
    have k1:=Int.emod_nonneg (i:Int) (show (mn:Int)≠0 by omega)
    have k2:=Int.emod_lt_of_pos (i:Int) hm0
    refine⟨_,rfl,_,rfl,_,rfl,_,_,rfl,rfl,hm0,lc,_,_,_,rfl,rfl,SqL.of ec2,(by rw[atI_int k1 (by rw[List.length_map,el]; exact k2) (.int 0),getD_map_int]),rfl,⟨_,rfl⟩,?_⟩
    rw[List.range_succ]
    simp
   ·rintro σ ys H' ⟨rfl,_,rfl⟩
    intro lq hlq
    generalize hqs:((List.range sz).map fun k:Nat=>cs.getD ((k:Int) % mn).toNat 0)=qs
    have ql:qs.length=sz:=by rw[<-hqs]; simp
    have qr:∀ c∈qs,(0:Int)<=c/\c<1000:=fun c hc=>by
     rw[<-hqs] at hc
     obtain⟨k,hk,rfl⟩:=List.mem_map.mp hc
     have k1:=Int.emod_nonneg (k:Int) (show (mn:Int)≠0 by omega)
     have k2:=Int.emod_lt_of_pos (k:Int) hm0
     exact cr _ (getD_mem (by omega))
    have s3:=same_new hlq (o:=.lst (qs.map V.int))
    have s13:=(s1.trans s2).trans s3
    have lq0:H lq=none:=Same.free (s1.trans s2) hlq
    have l0:H l=none:=Same.free s1 hl
    have nql:lq≠l:=by
     obtain⟨zs,z1,_⟩:=to2
     exact Ne.symm (ne_of_none z1 hlq)
    have to3:=Told.same s3 to2
    refine⟨_,rfl,a,ns,_,rfl,s13.seq hS,by decide,?_⟩
    refine⟨_,rfl,_,_,rfl,rfl,(by show (0:Int)<3; decide),rfl,_,rfl,ite2 (fun hc=>?_) (fun hc=>?_)⟩
    ·have hz0:(0:Int)<sz:=by omega
     have hN3:=s3.seq (s2.seq hN)
     have j1:0<=cellAt ns 5/7 % 3/\cellAt ns 5/7 % 3<3:=by omega
     refine⟨_,rfl,_,_,rfl,rfl,⟨by decide,by decide⟩,_,rfl,_,_,rfl,rfl,hz0,_,rfl,_,rfl,_,_,rfl,rfl,⟨by decide,by decide⟩,_,_,rfl,rfl,(by show (0:Int)<3; decide),ln,_,_,_,rfl,rfl,hN3,(by rw[atI_int j1.1 (by rw[List.length_map]; omega) (.int 0),getD_map_int]),_,rfl,_,_,rfl,rfl,⟨by decide,by decide⟩,_,rfl,_,_,rfl,rfl,hz0,show 3<=sizeLine by decide,fun p hp=>?_⟩
     have s4:=same_new hp (o:=.tup ((spDoor (cellAt ns 5) nm sz).map V.int))
     have p4:SqT K _ p ((spDoor (cellAt ns 5) nm sz).map V.int):=SqT.of (upd_same (H:=upd H' lq (.lst (qs.map V.int))) (o:=.tup ((spDoor (cellAt ns 5) nm sz).map V.int)))
     obtain⟨zs,z1,z2⟩:=id (Told.same s4 to3)
     have zl:zs.length=ts'.length:=Told.len z2
     have e4:upd (upd H' lq (.lst (qs.map V.int))) p (.tup ((spDoor (cellAt ns 5) nm sz).map V.int)) lq=some (.lst (qs.map V.int)):=s4 _ _ upd_same
     refine⟨_,rfl,_,rfl,p,l,spDoor (cellAt ns 5) nm sz,ts',zs,rfl,p4,rfl,SqL.of z1,z2,_,rfl,ite2 (fun hc2=>?_) (fun hc2=>?_)⟩
     ·have nw:=not_of hc2
      refine⟨_,rfl,.inl ⟨rfl,_,SqL.of z1⟩,_,rfl,l,zs,_,rfl,rfl,z1,by rw[zl]; exact small1000 (by omega),?_⟩
      refine hq2 _ _ _ _ _ _ _ lq l qs (ts'++[spDoor (cellAt ns 5) nm sz]) lq0 l0 nql (fun b o e=>?_) ?_ (Told.snoc z1 z2 p4) (nodup_snoc nd2 nw) ?_ (by omega) (by omega) (by rw[List.length_append]; simp; omega) qr
      ·rw[upd_ne (ne_of_none e l0)]; exact s4 _ _ (s13 _ _ e)
      ·rw[upd_ne nql]; exact e4
      ·rw[ql]
       refine fits_snoc ft2 ⟨Int.emod_nonneg _ (by omega),Int.emod_lt_of_pos _ hz0⟩ ?_ ⟨Int.emod_nonneg _ (by omega),Int.emod_lt_of_pos _ hz0⟩
       have:=nr _ (getD_mem (l:=nm) (i:=(cellAt ns 5/7 % 3).toNat) (by omega))
       omega
     ·exact hq2 _ _ _ _ _ _ _ lq l qs ts' lq0 l0 nql (s13.trans s4) e4 (Told.same s4 to3) nd2 (by rw[ql]; exact ft2) (by omega) (by omega) (by omega) qr
    ·exact hq2 _ _ _ _ _ _ _ lq l qs ts' lq0 l0 nql s13 upd_same to3 nd2 (by rw[ql]; exact ft2) (by omega) (by omega) (by omega) qr
  obtain⟨t1,hp1,hq1⟩:=R1
  refine⟨_,(pss_cons (ps_set (i:=1) scDrawn.nd rfl (Or.inl rfl) (pe_call GC hr1 rfl DC.mg DC.fn.kp DC.bd .nil pass0 (pa_cons (pv 0) (pa_cons pe_int pa_nil)))) (pss_cons (ps_set (i:=2) scDrawn.nd rfl (Or.inr rfl) (pe_op op_add pe_int (pe_op op_mod (pv 1) pe_int))) (pss_cons (ps_set (i:=3) scDrawn.nd rfl (Or.inl rfl) (pe_call GN hr1 rfl DN.mg DN.fn.kp DN.bd .nil pass0 (pa_cons (pe_call GC hr1 rfl DC.mg DC.fn.kp DC.bd .nil pass0 (pa_cons (pv 0) (pa_cons pe_int pa_nil))) pa_nil))) (pss_cons (ps_set (i:=4) scDrawn.nd rfl (Or.inl rfl) (pe_call GB hr rfl DB.mg DB.fn.kp DB.bd .nil pass0 (pa_cons (pv 0) (pa_cons pe_int (pa_cons (pe_op op_mod (pe_call GC hr1 rfl DC.mg DC.fn.kp DC.bd .nil pass0 (pa_cons (pv 0) (pa_cons pe_int pa_nil))) pe_int) (pa_cons (pv 2) (pa_cons (pv 3) pa_nil))))))) (pss_cons (ps_set (i:=5) scDrawn.nd rfl (Or.inr rfl) (pe_call GL hr1 rfl DL.mg DL.fn.kp DL.bd .nil pass0 (pa_cons (pe_call GC hr1 rfl DC.mg DC.fn.kp DC.bd .nil pass0 (pa_cons (pv 0) (pa_cons pe_int pa_nil))) (pa_cons (pv 2) pa_nil)))) (pss_cons (ps_set (i:=6) scDrawn.nd rfl (Or.inl rfl) (pe_op op_add (pv 2) (pe_op op_mod (pe_op op_fdiv (pv 1) pe_int) pe_int))) (pss_cons (ps_if (pt_cmpR op_eq (pe_op op_mod (pe_op op_fdiv (pv 1) pe_int) pe_int) pe_int (nomark _)) (pss_one (ps_set (i:=6) scDrawn.nd rfl (Or.inl rfl) (pe_op op_add (pe_op op_add (pv 2) pe_int) (pe_op op_mod (pe_op op_fdiv (pv 1) pe_int) pe_int)))) pss_nil) hp1))))))),?_⟩
  refine⟨_,rfl,a,ns,_,rfl,hS,by decide,?_⟩
  refine⟨_,rfl,_,_,rfl,rfl,(by show (0:Int)<5; decide),_,_,rfl,rfl,?_⟩
  refine⟨_,rfl,a,ns,_,rfl,hS,by decide,_,rfl,fun ln hln=>?_⟩
  have s1:=same_new hln (o:=.lst ((namesOf (cellAt ns 1)).map V.int))
  obtain⟨nl1,nl2⟩:=namesOf_len (cellAt ns 1)
  obtain⟨mn,hmn⟩ : ∃ mn:Nat,1+cellAt ns 0 % 5=(mn:Int):=⟨(1+cellAt ns 0 % 5).toNat,by omega⟩
  obtain⟨cn,hcn⟩ : ∃ cn:Nat,cellAt ns 2 % 11=(cn:Int):=⟨(cellAt ns 2 % 11).toNat,by omega⟩
  refine⟨_,rfl,_,rfl,a,ns,_,rfl,s1.seq hS,by decide,_,_,rfl,rfl,(by show (0:Int)<11; decide),_,rfl,_,rfl,a,ln,ns,namesOf (cellAt ns 1),6,_,_,cn,mn,rfl,s1.seq hS,SqL.of upd_same,by decide,hcn,by omega,hmn,by omega,by omega,by omega,by omega,namesOf_rng _,fun ld ts H2 hld s2 to nd ft tl=>?_⟩
  have s12:=s1.trans s2
  refine⟨_,rfl,a,ns,_,rfl,s12.seq hS,by decide,_,rfl,_,_,mn,rfl,hmn,by omega,fun lc cs H3 hlc s3 ec el cr=>?_⟩
  have s13:=s12.trans s3
  have fin:∀ (sz:Nat),mn<=sz->sz<=34->t1 { nx:=fun _ H'=>Q .non H',rt:=Q } [some (.ref a),some (.int (cellAt ns 0)),some (.int mn),some (.ref ln),some (.ref ld),some (.ref lc),some (.int sz),none,none] H3:=fun sz h1 h2=>
   hq1 H3 (cellAt ns 0) mn sz ln ld lc (namesOf (cellAt ns 1)) cs ts s13 (by omega) h1 h2 nl1 (namesOf_rng _) (s3.seq (s2.seq (SqL.of upd_same))) (Told.same s3 to) ft (by omega) ec el cr
  refine⟨_,rfl,_,rfl,_,_,rfl,rfl,⟨by decide,by decide⟩,_,_,rfl,rfl,(by show (0:Int)<6; decide),_,_,rfl,rfl,?_⟩
  refine⟨_,rfl,_,_,rfl,rfl,⟨by decide,by decide⟩,_,_,rfl,rfl,(by show (0:Int)<8; decide),rfl,_,rfl,ite2 (fun hc=>?_) (fun hc=>?_)⟩
  ·refine⟨_,rfl,_,_,rfl,rfl,_,rfl,_,_,rfl,rfl,⟨by decide,by decide⟩,_,_,rfl,rfl,(by show (0:Int)<20; decide),_,_,rfl,rfl,?_⟩
   obtain⟨sz,hsz⟩ : ∃ sz:Nat,1+cellAt ns 0 % 5+10+cellAt ns 0/240 % 20=(sz:Int):=⟨(1+cellAt ns 0 % 5+10+cellAt ns 0/240 % 20).toNat,by omega⟩
   have key:=fin sz (by omega) (by omega)
   rw[<-hsz,← hmn] at key
   exact key
  ·obtain⟨sz,hsz⟩ : ∃ sz:Nat,1+cellAt ns 0 % 5+cellAt ns 0/5 % 6=(sz:Int):=⟨(1+cellAt ns 0 % 5+cellAt ns 0/5 % 6).toNat,by omega⟩
   have key:=fin sz (by omega) (by omega)
   rw[<-hsz,← hmn] at key
   exact key
end
end K17
namespace K17
open PySem L2 L3
structure TxtN (mg:Str->Option Value):Prop where
 fig:∃ t,mg "FIGURES" = some (.str (Str.ofString "0123456789") t)
 most:∃ t,mg "MOST_FIGURES" = some (.int 3 t)
 str:mg "str" = none
theorem figs_is:Str.ofString "0123456789" = figs:=by decide +kernel
theorem blank_is:Str.ofString " " = oL [32]:=by decide +kernel
theorem end_is:Str.ofString "\n" = oL [10]:=by decide +kernel
theorem none_is:Str.ofString "" = oL []:=by decide +kernel
theorem nought_is:Str.ofString "0" = oL [48]:=by decide +kernel
theorem rooms_is:Str.ofString "rooms" = oL [114,111,111,109,115]:=by decide +kernel
theorem door_is:Str.ofString "door" = oL [100,111,111,114]:=by decide +kernel
theorem bStr:bootBuiltins "str" = some (.type "str"):=by decide +kernel
theorem out_figs:∀ c:Nat,c<128->¬ (48<=c/\c<=57)->(PySem.Builtin.Str.occurrences figs ⟨#[c]⟩ 0 figs.length 1).isEmpty=true:=by
 intro c h1 h2
 exact (show ∀ c∈List.range 128,¬ (48<=c/\c<=57)->(PySem.Builtin.Str.occurrences figs ⟨#[c]⟩ 0 figs.length 1).isEmpty=true by decide +kernel) c (List.mem_range.mpr h1) h2
section
variable {P:Program} {w:World} {K:PySem.W.Frag} {mg:Str->Option Value} {base:Heap} {f fN C CR CB:Addr} {fd fdN:FuncData}
def spNumber (CB:Addr):Sp:=fun vs H Q E=>∃ l:List Nat,vs=[.str (oL l)]/\Asc l/\(∀ n,numF l=some n->Q (.int n) H)/\(numF l=none->E (.ref CB) none H)
theorem scNumber:FnScope ["figures", "sign"] ["figures"] (defScope sNumber):=⟨rfl,rfl,rfl,by decide +kernel,rfl,by decide +kernel,by decide +kernel⟩
theorem ok_number (T:Txt mg) (TN:TxtN mg) (XB:ExcAt K mg "BadNote" CB) (D:DefAt K mg "number_of" sNumber ["figures"] f fd):FnOk P w K mg base (CXE P w) 1 f fd ["figures"] (spNumber CB):=by
 obtain⟨tm,hmm⟩:=TN.most
 obtain⟨tf,hmf⟩:=TN.fig
 have gM:∀ {X:Cx} {pos:Pos},X.mg=mg->Gl X "MOST_FIGURES" -> PE X (.Name "MOST_FIGURES" pos) (tC (.int 3)):=fun e g=>pe_glob g (by rw[e]; exact hmm) ⟨tm,rfl⟩
 have gF:∀ {X:Cx} {pos:Pos},X.mg=mg->Gl X "FIGURES" -> PE X (.Name "FIGURES" pos) (tC (.str figs)):=fun e g=>pe_glob g (by rw[e]; exact hmf) ⟨tf,by rw[<-figs_is]⟩
 refine L3.Fun.okE D.fn scNumber (fun vs H Q E h=>?_) (fun cdv A outer s H vs Q E hr h=>?_)
 ·obtain⟨l,rfl,_⟩:=h
  rfl
 ·obtain⟨l,rfl,⟨hl,hc⟩,q,qx⟩:=h
  have hu:=hu64 hr
  have e1:(oL l).length=l.length:=oL_len l
  have hz:(oL l).length<=sizeLine:=by rw[e1]; exact Nat.le_trans hl (by decide)
  refine⟨_,(pss_cons (ps_if (PW.pt (pw_or (pt_cmpR op_lt (pe_callB call_len_str rfl T.len PySem.boot_len (pa_cons (pv 0) pa_nil)) pe_int (nomark _)) (pw_or1 (pt_cmpR op_gt (pe_callB call_len_str rfl T.len PySem.boot_len (pa_cons (pv 0) pa_nil)) (gM rfl rfl) (nomark _))))) (pss_one (ps_raise (E₀:=E) rfl rfl XB.mg XB.xc (pa_cons (pe_join (pj_repr (pv 0) (pj_text pj_nil))) pa_nil) (fun pins σ H s h1 y vs I hm q=>xe_new I hm q))) pss_nil) (pss_cons (ps_for PassesOwn.leaving rfl (pi_str (pv 0)) (pg_name (i:=1) scNumber.nd rfl (Or.inl rfl)) (pss_one (ps_if (pt_cmpR op_notIn_str (pv 1) (gF rfl rfl) rfl) (pss_one (ps_raise (E₀:=E) rfl rfl XB.mg XB.xc (pa_cons (pe_join (pj_repr (pv 0) (pj_text pj_nil))) pa_nil) (fun pins σ H s h1 y vs I hm q=>xe_new I hm q))) pss_nil))) (pss_cons (ps_if (PW.pt (pw_and (pt_cmpR op_eq (pe_ix ix_str (pv 0) pe_int (fun _ _=>rfl)) pe_str (nomark _)) (pw_and1 (pt_cmpR op_gt (pe_callB call_len_str rfl T.len PySem.boot_len (pa_cons (pv 0) pa_nil)) pe_int (nomark _))))) (pss_one (ps_raise (E₀:=E) rfl rfl XB.mg XB.xc (pa_cons (pe_join (pj_repr (pv 0) (pj_text pj_nil))) pa_nil) (fun pins σ H s h1 y vs I hm q=>xe_new I hm q))) pss_nil) (pss_one (ps_ret (pe_callTy call_int_str rfl T.int bInt (pa_cons (pv 0) pa_nil))))))),?_⟩
  have bad:¬ ((1<=l.length/\l.length<=3/\∀ c∈l,48<=c/\c<=57)/\¬ (l.head?=some 48/\1<l.length))->E (.ref CB) none H:=fun hn=>qx (by unfold numF; rw[if_neg hn])
  refine⟨_,rfl,oL l,rfl,hz,_,_,rfl,rfl,_,rfl,ite2 (fun hc1=>?_) (fun hc1=>?_)⟩
  ·have:=of_decide_eq_true hc1
   exact⟨⟨_,rfl,rfl,⟨l,rfl,hl,hc⟩,True.intro⟩,fun y=>⟨show 1<=sizeLine by decide,bad fun z=>by have:=z.1.1; omega⟩⟩
  have n1:¬ (((oL l).length:Nat):Int)<1:=fun z=>hc1 (decide_eq_true z)
  refine⟨_,rfl,oL l,rfl,hz,_,_,rfl,rfl,_,rfl,ite2 (fun hc2=>?_) (fun hc2=>?_)⟩
  ·have:=of_decide_eq_true hc2
   exact⟨⟨_,rfl,rfl,⟨l,rfl,hl,hc⟩,True.intro⟩,fun y=>⟨show 1<=sizeLine by decide,bad fun z=>by have:=z.1.2.1; omega⟩⟩
  have n2:¬ (3:Int)<(((oL l).length:Nat):Int):=fun z=>hc2 (decide_eq_true z)
  refine⟨_,rfl,oL l,rfl,?_,for_str (fun i σ H1=>H1=H/\(∃ u,σ=[some (.str (oL l)),u])/\∀ c∈l.take i,48<=c/\c<=57) ⟨rfl,⟨none,rfl⟩,by simp⟩ ?_ ?_⟩
  ·rw[Array.all_eq_true']
   intro c h1
   have:=hc c (by rw[<-of_oL l]; simpa using h1)
   exact decide_eq_true (by omega)
  ·rintro i c σ H1 h1 ⟨rfl,⟨u,rfl⟩,hd⟩
   have e3:l[i]?=some c:=by
    have:(oL l).cps.toList[i]?=some c:=by simpa using h1
    rw[of_oL] at this; exact this
   have h2:=hc c (List.mem_of_getElem? e3)
   by_cases hb:48<=c/\c<=57
   ·refine⟨_,rfl,_,_,rfl,rfl,_,rfl,iteN (by rw[in_figs c hb.1 hb.2]; rfl) ?_⟩
    refine⟨rfl,⟨_,rfl⟩,fun d hm=>?_⟩
    rw[List.take_add_one,e3] at hm
    rcases List.mem_append.mp hm with hm | hm
    ·exact hd d hm
    ·simp at hm; rw[hm]; exact hb
   ·refine⟨_,rfl,_,_,rfl,rfl,_,rfl,iteB (by rw[out_figs c h2 hb]; rfl) ?_⟩
    exact⟨⟨_,rfl,rfl,⟨l,rfl,hl,hc⟩,True.intro⟩,fun y=>⟨show 1<=sizeLine by decide,bad fun z=>hb (z.1.2.2 c (List.mem_of_getElem? e3))⟩⟩
  ·rintro σ H1 ⟨rfl,⟨u,rfl⟩,hd⟩
   rw[e1,List.take_length] at hd
   obtain⟨a,r,rfl⟩ : ∃ a r,l=a::r:=by
    cases l with
    | nil=>simp at e1; omega
    | cons a r=>exact⟨a,r,rfl⟩
   have good:¬ (a=48/\1<(a::r).length)->∃ n,numF (a::r)=some n/\PySem.intText? (oL (a::r))=some n:=fun hn=>by
    refine⟨_,?_,PySem.intText_digits (by rw[of_oL]; exact hd) (by rw[of_oL]; simp) (by omega)⟩
    unfold numF
    rw[if_pos ⟨⟨by simp,by omega,hd⟩,fun z=>hn ⟨by simpa using z.1,z.2⟩⟩,of_oL]
   refine⟨_,rfl,oL (a::r),0,a,rfl,rfl,hz,by rw[of_oL]; exact at0 _ _,rfl,_,rfl,ite2 (fun hc3=>?_) (fun hc3=>?_)⟩
   ·have h1:=of_decide_eq_true hc3
    have h2:a=48:=by
     have:=V.str.inj h1
     rw[nought_is] at this
     have:=oL_inj (a:=[a]) this
     simpa using this
    refine⟨_,rfl,oL (a::r),rfl,hz,_,_,rfl,rfl,_,rfl,ite2 (fun hc4=>?_) (fun hc4=>?_)⟩
    ·have h4:=of_decide_eq_true hc4
     exact⟨⟨_,rfl,rfl,⟨a::r,rfl,hl,hc⟩,True.intro⟩,fun y=>⟨show 1<=sizeLine by decide,bad fun z=>z.2 ⟨by rw[h2]; rfl,by omega⟩⟩⟩
    ·have h4:¬ (1:Int)<(((oL (a::r)).length:Nat):Int):=fun z=>hc4 (decide_eq_true z)
     obtain⟨n,g1,g2⟩:=good fun z=>h4 (by have:=z.2; omega)
     exact⟨_,rfl,oL (a::r),n,rfl,g2,by omega,q n g1⟩
   ·obtain⟨n,g1,g2⟩:=good fun z=>hc3 (decide_eq_true (by rw[z.1,nought_is]; rfl))
    exact⟨_,rfl,oL (a::r),n,rfl,g2,by omega,q n g1⟩
def spNumsB (CB:Addr):Sp:=fun vs H Q E=>∃ (wd l:List Nat),vs=[.str (oL wd),.str (oL l)]/\wd.length<=10/\Asc l/\(∀ ns,numsF wd l=some ns->∀ a H',H a=none->Same H H'->H' a=some (.lst (ns.map V.int))->Q (.ref a) H')/\(numsF wd l=none->∀ H',Same H H'->E (.ref CB) none H')
theorem scNumsB:FnScope ["word", "line", "words"] ["word", "line"] (defScope sNumsB):=⟨rfl,rfl,rfl,by decide +kernel,rfl,by decide +kernel,by decide +kernel⟩
theorem asc_spl {c:Nat} {l:List Nat} (h:Asc l):Asc (splL c l).1/\∀ m∈(splL c l).2,Asc m:=by
 have hl:=splL_len c l
 refine⟨⟨Nat.le_trans hl.1 h.1,fun x hx=>h.2 x (splL_mem (.inl hx))⟩,fun m hm=>⟨Nat.le_trans (hl.2.2 m hm) h.1,fun x hx=>h.2 x (splL_mem (.inr ⟨m,hm,hx⟩))⟩⟩
theorem ok_numsb (T:Txt mg) (XB:ExcAt K mg "BadNote" CB) (DN:DefAt K mg "number_of" sNumber ["figures"] fN fdN) (GN:FnOk P w K mg base (CXE P w) 1 fN fdN ["figures"] (spNumber CB)) (D:DefAt K mg "numbers_behind" sNumsB ["word", "line"] f fd):FnOk P w K mg base (CXE P w) 2 f fd ["word", "line"] (spNumsB CB):=by
 refine L3.Fun.okE D.fn scNumsB (fun vs H Q E h=>?_) (fun cdv A outer s H vs Q E hr h=>?_)
 ·obtain⟨wd,l,rfl,_⟩:=h
  rfl
 ·obtain⟨wd,l,rfl,hw,hA,q,qx⟩:=h
  have hu:=hu64 hr
  refine⟨_,(pss_cons (ps_set (i:=2) scNumsB.nd rfl (Or.inl rfl) (pe_bm PySem.F.plainAttrs_str PySem.F.slot_str_split PySem.F.type_str_split mt_split (pv 1) (pa_cons pe_str pa_nil))) (pss_cons (ps_if (pt_cmpR op_ne (pe_ix ix_list (pv 2) pe_int (fun _ _=>rfl)) (pv 0) (nomark _)) (pss_one (ps_raise (E₀:=E) rfl rfl XB.mg XB.xc (pa_cons (pe_join (pj_repr (pv 1) (pj_text (pj_str (pv 0) pj_nil)))) pa_nil) (fun pins σ H s h1 y vs I hm q=>xe_new I hm q))) pss_nil) (pss_one (ps_ret (pe_compE (o:=(defScope sNumsB)) (N:=["word", "line", "words"]) (N':=["figures"]) (src:=[none]) ⟨rfl,rfl,rfl⟩ (xe_comp (Ec:=E) fun _ _ _ z=>z) ⟨by rfl,by decide +kernel,by decide +kernel,by decide +kernel,by rfl,by decide +kernel⟩ (pi_list (pe_slice sl_list (pv 2) (po_some pe_int) po_none)) (fun C s₀ H₀ ex=>(pg_name (i:=0) (show (["figures"]:List Str).Nodup by decide +kernel) rfl (Or.inl rfl))) (fun C s₀ H₀ ex=>pifs_nil) (fun C s₀ H₀ ex=>(pe_call GN hr rfl DN.mg DN.fn.kp DN.bd .nil pass_comp (pa_cons (pv 0) pa_nil)))))))),?_⟩
  have hAs:=asc_spl (c:=32) hA
  refine⟨_,rfl,rfl,oL l,32,rfl,by rw[blank_is]; rfl,by rw[oL_len]; exact Nat.le_trans (Nat.add_le_add_right hA.1 2) (by decide),fun lw hlw=>?_⟩
  rw[split_L,List.map_cons]
  have s1:=same_new hlw (o:=.lst (V.str (oL (splL 32 l).1)::((splL 32 l).2.map oL).map V.str))
  refine⟨_,rfl,lw,_,0,_,rfl,rfl,SqL.of upd_same,at0 _ _,_,rfl,rfl,_,rfl,ite2 (fun hc=>?_) (fun hc=>?_)⟩
  ·have hn:(splL 32 l).1≠wd:=fun z=>by rw[z] at hc; simp at hc
   refine⟨⟨_,rfl,rfl,⟨l,rfl,hA.1,hA.2⟩,_,rfl,rfl,⟨wd,rfl,by omega⟩,True.intro⟩,fun y=>⟨show 1<=sizeLine by decide,qx (by unfold numsF; rw[if_neg hn]) _ s1⟩⟩
  have hwd:(splL 32 l).1=wd:=by
   simp at hc
   exact oL_inj hc
  refine⟨_,rfl,_,rfl,lw,_,rfl,SqL.of upd_same,fun lc hlc=>?_⟩
  have s2:=same_new hlc (o:=.lst (((splL 32 l).2.map oL).map V.str))
  rw[cut1]
  refine⟨lc,rfl,⟨_,SqL.of upd_same⟩,turns_list (K:=K) (a:=lc) (xs:=((splL 32 l).2.map oL).map V.str) (fun j σ ys H5=>H5=upd (upd H lw (.lst (V.str (oL (splL 32 l).1)::((splL 32 l).2.map oL).map V.str))) lc (.lst (((splL 32 l).2.map oL).map V.str))/\(∃ k,σ=[k])/\∃ ns,allS ((splL 32 l).2.take j)=some ns/\ys=ns.map V.int/\ys.length=min j (splL 32 l).2.length) ⟨rfl,⟨none,rfl⟩,[],rfl,rfl,by simp⟩ ?_ ?_ ?_ ?_⟩
  ·rintro i σ ys H5 hi ⟨rfl,_,ns,_,_,e⟩
   refine⟨SqL.of upd_same,?_⟩
   rw[e]; omega
  ·rw[List.length_map,List.length_map]; exact Nat.le_trans (Nat.le_trans (splL_len 32 l).2.1 hA.1) (by decide)
  ·rintro i x σ ys H5 hx ⟨rfl,⟨k,rfl⟩,ns,e1,e2,e3⟩
   rw[List.map_map,List.getElem?_map] at hx
   obtain⟨m,em,rfl⟩:=Option.map_eq_some_iff.mp hx
   have il:i<(splL 32 l).2.length:=(List.getElem?_eq_some_iff.mp em).1
   refine gyes ?_
   refine⟨_,rfl,m,rfl,hAs.2 m (List.mem_of_getElem? em),fun n hn=>?_,fun hn=>?_⟩
   ·refine⟨rfl,⟨_,rfl⟩,ns++[n],by rw[allS_take e1 em,hn]; rfl,by rw[e2,List.map_append]; rfl,?_⟩
    rw[List.length_append,e3]
    simp; omega
   ·exact qx (by unfold numsF; rw[if_pos hwd]; exact allS_none em hn) _ (s1.trans s2)
  ·rintro σ ys H5 ⟨rfl,_,ns,e1,e2,e3⟩
   intro a ha
   rw[List.length_map,List.length_map,List.take_length] at e1
   rw[e2]
   exact q ns (by unfold numsF; rw[if_pos hwd]; exact e1) a _ (s1.free (s2.free ha)) (s1.trans (s2.trans (same_new ha))) upd_same
end
end K17
namespace K17
open PySem L2 L3
section
variable {P:Program} {w:World} {K:PySem.W.Frag} {mg:Str->Option Value} {base:Heap} {f fN fI fO fR fD C CE CR CD CT CB:Addr} {fd fdN fdI fdO fdR fdD:FuncData}
structure ExN (K:PySem.W.Frag) (mg:Str->Option Value) (CE CR CD CT CB:Addr):Prop where
 e:ExcAt K mg "HallError" CE
 r:ExcAt K mg "NoRoom" CR
 d:ExcAt K mg "DoorThere" CD
 t:ExcAt K mg "TooMany" CT
 b:ExcAt K mg "BadNote" CB
 ure:Under K CR CE
 ude:Under K CD CE
 ute:Under K CT CE
 ube:Under K CB CE
 bb:PySem.W.kitOne K (.ref CB) (.ref CB)=some true
 br:PySem.W.kitOne K (.ref CB) (.ref CR)=some false
 bd:PySem.W.kitOne K (.ref CB) (.ref CD)=some false
 bt:PySem.W.kitOne K (.ref CB) (.ref CT)=some false
 bv:PySem.W.kitOne K (.ref CB) (.type "ValueError")=some true
 ve:mg "ValueError" = none
theorem bVE:bootBuiltins "ValueError" = some (.type "ValueError"):=by decide +kernel
def spReadRooms (C CB:Addr):Sp:=fun vs H Q E=>∃ l:List Nat,vs=[.str (oL l)]/\Asc l/\(∀ ns,numsF roomsW l=some ns->1<=ns.length->ns.length<=60->∀ h dx c d H',H c=none->H d=none->Same H H'->HallAt C H' h dx c d ns []->Q (.ref h) H') /\
 ((∀ ns,numsF roomsW l=some ns->¬ (1<=ns.length/\ns.length<=60))->∀ H',Same H H'->E (.ref CB) none H')
theorem scReadRooms:FnScope ["line", "colours"] ["line"] (defScope sReadRooms):=⟨rfl,rfl,rfl,by decide +kernel,rfl,by decide +kernel,by decide +kernel⟩
theorem ok_readrooms (HC:HallC K mg C) (M:Mk K C fI) (bI:Binds K fdI ["self", "colours"] []) (GI:FnOk P w K mg base (CXE P w) 1 fI fdI ["self", "colours"] (spInit K C CT)) (XS:ExN K mg CE CR CD CT CB)
  (DN:DefAt K mg "numbers_behind" sNumsB ["word", "line"] fN fdN) (GN:FnOk P w K mg base (CXE P w) 2 fN fdN ["word", "line"] (spNumsB CB)) (D:DefAt K mg "read_rooms" sReadRooms ["line"] f fd):FnOk P w K mg base (CXB false P w) 3 f fd ["line"] (spReadRooms C CB):=by
 have XE:=XS.e
 have XB:=XS.b
 refine L3.Fun.okE D.fn scReadRooms (fun vs H Q E h=>?_) (fun cdv A outer s H vs Q E hr h=>?_)
 ·obtain⟨l,rfl,_⟩:=h
  rfl
 ·obtain⟨l,rfl,hA,q,qx⟩:=h
  refine⟨_,pss_cons (ps_set (i:=1) scReadRooms.nd rfl (Or.inl rfl) (pe_call GN hr rfl DN.mg DN.fn.kp DN.bd .nil (pass_on (E:=E) (fun _ _ _ z=>z) (fun _=>rfl)) (pa_cons pe_str (pa_cons (pv 0) pa_nil))))
   (pss_one (ps_tryN fun pins De=>pss_one (ps_ret (pe_make M GI hr rfl HC.mg bI .nil (pass_tryR ⟨rfl,rfl,rfl⟩ rfl XE.mg XE.xc rfl (fun y=>PassesOwnAt.leaving) (fun hca y oe vy h0 h2=>pss_one (ps_raiseFrom (E₀:=E) h0 h2 rfl XB.mg XB.xc (pa_cons pe_str pa_nil) (fun pins σ H s h1 x' vs t' h' I hm a b c q=>xe_newR hca I hm a b c q)))) (pa_cons (pv 1) pa_nil))))),?_⟩
  refine⟨_,rfl,roomsW,l,by rw[rooms_is]; rfl,by decide,hA,fun ns hn a H1 ha s1 e1=>?_,fun hn H1 s1=>qx (fun ns z=>by rw[hn] at z; cases z) H1 s1⟩
  refine⟨_,rfl,?_⟩
  intro h dx hh hdx hne
  have hpx:a≠h:=ne_of_none e1 hh
  have hpd:a≠dx:=ne_of_none e1 hdx
  have sB:Same H (upd (upd H1 dx (.own h)) h (.ins C dx [])):=fun b o e=>by
   rw[upd_ne (ne_of_none (s1 _ _ e) hh),upd_ne (ne_of_none (s1 _ _ e) hdx)]
   exact s1 _ _ e
  refine⟨h,dx,a,ns,rfl,upd_same,SqL.of (by rw[upd_ne hpx,upd_ne hpd]; exact e1),fun z c d H2 hc hd sx ha=>?_,fun z=>?_⟩
  ·have s2:Same H H2:=fun b o e=>sx b o (ne_of_none (s1 _ _ e) hh) (sB b o e)
   exact⟨rfl,q ns hn z.1 z.2 h dx c d H2 (Same.free sB hc) (Same.free sB hd) s2 ha⟩
  ·refine⟨CT,rfl,XS.t.xc,XS.t.xa,XS.ute,fun σ hσ=>?_⟩
   exact⟨show 1<=sizeLine by decide,qx (fun ms hm=>by rw[hn] at hm; cases hm; exact z) _ sB⟩
def spReadDoor (C CB:Addr):Sp:=fun vs H Q E=>∃ (h dx c d:Addr) (cols:List Int) (ts:List (List Int)) (l:List Nat),vs=[.ref h,.str (oL l)]/\HallAt C H h dx c d cols ts/\ts.length<=400/\Asc l /\
 (∀ us,stepF cols.length ts l=some us->∀ H',SameX d H H'->HallAt C H' h dx c d cols us->Q .non H')/\(stepF cols.length ts l=none->∀ H',SameX d H H'->E (.ref CB) none H')
theorem scReadDoor:FnScope ["hall", "line", "numbers"] ["hall", "line"] (defScope sReadDoor):=⟨rfl,rfl,rfl,by decide +kernel,rfl,by decide +kernel,by decide +kernel⟩
theorem three {ns:List Int} (h:ns.length=3):∃ a n b,ns=[a,n,b]:=by
 match ns,h with
 | [a,n,b],_=>exact⟨a,n,b,rfl⟩
theorem ok_readdoor (T:Txt mg) (HC:HallC K mg C) (DO:MetAt K C "open_door" "Hall.open_door" sOpen ["self", "a", "name", "b"] fO fdO) (GO:FnOk P w K mg base (CXE P w) 2 fO fdO ["self", "a", "name", "b"] (spOpen C CR CD CT)) (XS:ExN K mg CE CR CD CT CB)
  (DN:DefAt K mg "numbers_behind" sNumsB ["word", "line"] fN fdN) (GN:FnOk P w K mg base (CXE P w) 2 fN fdN ["word", "line"] (spNumsB CB)) (D:DefAt K mg "read_door" sReadDoor ["hall", "line"] f fd):FnOk P w K mg base (CXB false P w) 3 f fd ["hall", "line"] (spReadDoor C CB):=by
 have XE:=XS.e
 have XB:=XS.b
 refine L3.Fun.okE D.fn scReadDoor (fun vs H Q E h=>?_) (fun cdv A outer s H vs Q E hr h=>?_)
 ·obtain⟨h,dx,c,d,cols,ts,l,rfl,_⟩:=h
  rfl
 ·obtain⟨h,dx,c,d,cols,ts,l,rfl,hh,n4,hA,q,qx⟩:=h
  refine⟨_,pss_cons (ps_set (i:=2) scReadDoor.nd rfl (Or.inl rfl) (pe_call GN hr rfl DN.mg DN.fn.kp DN.bd .nil (pass_on (E:=E) (fun _ _ _ z=>z) (fun _=>rfl)) (pa_cons pe_str (pa_cons (pv 1) pa_nil))))
   (pss_cons (ps_if (pt_cmpR op_ne (pe_callB call_len_seq rfl T.len PySem.boot_len (pa_cons (pv 2) pa_nil)) pe_int (nomark _)) (pss_one (ps_raise (E₀:=E) rfl rfl XB.mg XB.xc (pa_cons (pe_join (pj_text (pj_repr (pv 1) pj_nil))) pa_nil) (fun pins σ H s h1 y vs I hm q=>xe_new I hm q))) pss_nil)
   (pss_one (ps_tryN fun pins De=>pss_one (ps_expr (pe_methS (pv 0) HC.cls DO.mt GO hr DO.bd .nil (pass_tryRS ⟨rfl,rfl,rfl⟩ rfl XE.mg XE.xc rfl (fun y=>PassesOwnAt.leaving) (fun hca y oe vy h0 h2=>pss_one (ps_raiseFrom (E₀:=E) h0 h2 rfl XB.mg XB.xc (pa_cons (pe_join (pj_text (pj_repr (pv 1) (pj_text pj_nil)))) pa_nil) (fun pins σ H s h1 x' vs t' h' I hm a b c q=>xe_newR hca I hm a b c q))))
    (pa_cons (pe_ix (ix_listK (K:=K)) (pv 2) pe_int (fun _ _=>rfl)) (pa_cons (pe_ix (ix_listK (K:=K)) (pv 2) pe_int (fun _ _=>rfl)) (pa_cons (pe_ix (ix_listK (K:=K)) (pv 2) pe_int (fun _ _=>rfl)) pa_nil)))))))),?_⟩
  refine⟨_,rfl,doorW,l,by rw[door_is]; rfl,by decide,hA,fun ns hn a H1 ha s1 e1=>?_,fun hn H1 s1=>qx (by unfold stepF; rw[hn]) H1 (SameX.of s1)⟩
  refine⟨_,rfl,a,_,rfl,.inl (SqL.of e1),rfl,_,rfl,ite2 (fun hc=>?_) (fun hc=>?_)⟩
  ·rw[List.length_map] at hc
   have h3:ns.length≠3:=fun z=>by rw[z] at hc; simp at hc
   refine⟨⟨_,rfl,rfl,⟨l,rfl,hA.1,hA.2⟩,True.intro⟩,fun y=>⟨show 1<=sizeLine by decide,qx ?_ _ (SameX.of s1)⟩⟩
   unfold stepF
   rw[hn]
   match ns,h3 with
   | [],_=>rfl
   | [_],_=>rfl
   | [_,_],_=>rfl
   | [_,_,_],h3=>exact absurd rfl h3
   | _::_::_::_::_,_=>rfl
  have h3:ns.length=3:=by
   rw[List.length_map] at hc
   simp at hc
   omega
  obtain⟨x,n,y,rfl⟩:=three h3
  have rg:=(numsF_ok hn).2
  have rx:=rg x (by simp)
  have rn:=rg n (by simp)
  have ry:=rg y (by simp)
  have hh1:=hh.same s1
  have st:stepF cols.length ts l=if (x<cols.length/\y<cols.length)/\[x,n,y]∉ts/\ts.length<400 then some (ts++[[x,n,y]]) else none:=by
   unfold stepF
   rw[hn]
  have bad:∀ (H2:Hp),Same H1 H2->¬ ((x<cols.length/\y<cols.length)/\[x,n,y]∉ts/\ts.length<400)->E (.ref CB) none H2:=fun H2 s2 z=>qx (by rw[st,if_neg z]) H2 (SameX.of (s1.trans s2))
  refine⟨_,rfl,h,dx,_,rfl,hh1.ob,rfl,_,rfl,a,_,0,_,rfl,rfl,SqL.of e1,at0 _ _,_,rfl,a,_,1,_,rfl,rfl,SqL.of e1,at1 _ _ _,_,rfl,a,_,2,_,rfl,rfl,SqL.of e1,at2 _ _ _ _,h,dx,c,d,cols,ts,x,n,y,rfl,hh1,by omega,tell_of (by omega) (by omega),tell_of (by omega) (by omega),tell_of (by omega) (by omega),fun z=>?_,fun z1 z2 H2 s2=>?_,fun z1 z2 z3 H2 s2=>?_,fun z1 z2 z3 H4 s4 a4=>?_⟩
  ·refine⟨CR,rfl,XS.r.xc,XS.r.xa,XS.ure,⟨_,rfl,rfl,⟨l,rfl,hA.1,hA.2⟩,True.intro⟩,fun y=>⟨show 1<=sizeLine by decide,bad _ (Same.refl _) fun z2=>z ?_⟩⟩
   omega
  ·exact⟨CD,rfl,XS.d.xc,XS.d.xa,XS.ude,⟨_,rfl,rfl,⟨l,rfl,hA.1,hA.2⟩,True.intro⟩,fun y=>⟨show 1<=sizeLine by decide,bad _ s2 fun z=>z.2.1 z2⟩⟩
  ·exact⟨CT,rfl,XS.t.xc,XS.t.xa,XS.ute,⟨_,rfl,rfl,⟨l,rfl,hA.1,hA.2⟩,True.intro⟩,fun y=>⟨show 1<=sizeLine by decide,bad _ s2 fun z=>by omega⟩⟩
  ·exact q _ (by rw[st,if_pos ⟨⟨z1.1.2,z1.2.2⟩,z2,z3⟩]) H4 ((SameX.of s1).trans s4) a4
theorem doorsF_take {n:Nat} {ts us:List (List Int)} {ls:List (List Nat)} {i:Nat} {l:List Nat} (h:doorsF n ts (ls.take i)=some us) (e:ls[i]?=some l):doorsF n ts (ls.take (i+1))=stepF n us l:=by
 rw[List.take_add_one,e,doorsF_app,h]
 show doorsF n us [l]=_
 rw[doorsF]
 cases stepF n us l <;> rfl
theorem doorsF_none {n:Nat} {ts:List (List Int)} {ls:List (List Nat)} {i:Nat} (h:doorsF n ts (ls.take i)=none):doorsF n ts ls=none:=by
 rw[<-List.take_append_drop i ls,doorsF_app,h]
 rfl
theorem readF_cut {l last:List Nat} {init:List (List Nat)} (e:(splL 10 l).1::(splL 10 l).2=init++[last]):readF l=if last=[] then (match init with
  | []=>none
  | f::r=>match numsF roomsW f with
   | some cols=>if 1<=cols.length/\cols.length<=60 then (doorsF cols.length [] r).map fun ts=>(cols,ts) else none
   | none=>none) else none:=by
 unfold readF
 rw[e,List.getLast?_append,List.dropLast_concat]
 by_cases h:last=[]
 ·rw[if_pos (by rw[h]; rfl),if_pos h]
  all_goals (rcases init with _ | ⟨f,r⟩)
  all_goals (first | rfl | (dsimp only; cases numsF roomsW f <;> rfl))
 ·rw[if_neg (fun z=>h (by simpa using z)),if_neg h]
def spRead (C CB:Addr):Sp:=fun vs H Q E=>∃ l:List Nat,vs=[.str (oL l)]/\Asc l/\(∀ cols ts,readF l=some (cols,ts)->∀ h dx c d H',H c=none->H d=none->Same H H'->HallAt C H' h dx c d cols ts->Q (.ref h) H')/\(readF l=none->∀ H',Same H H'->E (.ref CB) none H')
theorem scRead:FnScope ["text", "lines", "hall", "line"] ["text"] (defScope sRead):=⟨rfl,rfl,rfl,by decide +kernel,rfl,by decide +kernel,by decide +kernel⟩
theorem ok_read (T:Txt mg) (XS:ExN K mg CE CR CD CT CB) (DR:DefAt K mg "read_rooms" sReadRooms ["line"] fR fdR) (GR:FnOk P w K mg base (CXB false P w) 3 fR fdR ["line"] (spReadRooms C CB))
  (DD:DefAt K mg "read_door" sReadDoor ["hall", "line"] fD fdD) (GD:FnOk P w K mg base (CXB false P w) 3 fD fdD ["hall", "line"] (spReadDoor C CB)) (D:DefAt K mg "read" sRead ["text"] f fd):FnOk P w K mg base (CXB false P w) 4 f fd ["text"] (spRead C CB):=by
 have XB:=XS.b
 refine L3.Fun.okE D.fn scRead (fun vs H Q E h=>?_) (fun cdv A outer s H vs Q E hr h=>?_)
 ·obtain⟨l,rfl,_⟩:=h
  rfl
 ·obtain⟨l,rfl,hA,q,qx⟩:=h
  refine⟨_,(pss_cons (ps_set (i:=1) scRead.nd rfl (Or.inl rfl) (pe_bm PySem.F.plainAttrs_str PySem.F.slot_str_split PySem.F.type_str_split mt_split (pv 0) (pa_cons pe_str pa_nil))) (pss_cons (ps_if (pt_cmpR op_ne (pe_bm0 PySem.F.plainAttrs_list PySem.F.slot_list_pop PySem.F.type_list_pop mt_pop (pv 1)) pe_str (nomark _)) (pss_one (ps_raise (E₀:=E) rfl rfl XB.mg XB.xc (pa_cons pe_str pa_nil) (fun pins σ H s h1 y vs I hm q=>xe_new I hm q))) pss_nil) (pss_cons (ps_if (pt_cmpR op_eq (pe_callB call_len_seq rfl T.len PySem.boot_len (pa_cons (pv 1) pa_nil)) pe_int (nomark _)) (pss_one (ps_raise (E₀:=E) rfl rfl XB.mg XB.xc (pa_cons pe_str pa_nil) (fun pins σ H s h1 y vs I hm q=>xe_new I hm q))) pss_nil) (pss_cons (ps_set (i:=2) scRead.nd rfl (Or.inl rfl) (pe_call GR hr rfl DR.mg DR.fn.kp DR.bd .nil (pass_on (E:=E) fun _ _ _ z=>z) (pa_cons (pe_ix ix_list (pv 1) pe_int (fun _ _=>rfl)) pa_nil))) (pss_cons (ps_for PassesOwn.leaving rfl (pi_list (pe_slice sl_list (pv 1) (po_some pe_int) po_none)) (pg_name (i:=3) scRead.nd rfl (Or.inl rfl)) (pss_one (ps_expr (pe_call GD hr rfl DD.mg DD.fn.kp DD.bd .nil (pass_on (E:=E) fun _ _ _ z=>z) (pa_cons (pv 2) (pa_cons (pv 3) pa_nil)))))) (pss_one (ps_ret (pv 2)))))))),?_⟩
  have hAs:=asc_spl (c:=10) hA
  obtain⟨init,last,ei⟩ : ∃ init last,(splL 10 l).1::(splL 10 l).2=init++[last]:=⟨_,_,(List.dropLast_concat_getLast (List.cons_ne_nil _ _)).symm⟩
  have rF:=readF_cut ei
  have hAi:∀ m∈init,Asc m:=fun m hm=>by
   have:m∈(splL 10 l).1::(splL 10 l).2:=by rw[ei]; exact List.mem_append_left _ hm
   rcases List.mem_cons.mp this with rfl | z
   ·exact hAs.1
   ·exact hAs.2 m z
  have il:init.length<=200000:=by
   have:=congrArg List.length ei
   rw[List.length_cons,List.length_append] at this
   have:=(splL_len 10 l).2.1
   have:=hA.1
   simp at *
   omega
  refine⟨_,rfl,rfl,oL l,10,rfl,by rw[end_is]; rfl,by rw[oL_len]; exact Nat.le_trans (Nat.add_le_add_right hA.1 2) (by decide),fun lw hlw=>?_⟩
  have el:(Txt.split (oL l) ⟨#[10]⟩).map V.str=(init.map fun m=>V.str (oL m))++[V.str (oL last)]:=by
   rw[split_L,← List.map_cons (f:=oL),ei]
   simp[List.map_map,Function.comp_def]
  rw[el]
  have s1:=same_new hlw (o:=.lst ((init.map fun m=>V.str (oL m))++[V.str (oL last)]))
  have s2:=same_new hlw (o:=.lst (init.map fun m=>V.str (oL m)))
  refine⟨_,rfl,.inl ⟨rfl,_,SqL.of upd_same⟩,lw,_,V.str (oL last),rfl,rfl,upd_same,by simp,?_⟩
  rw[List.dropLast_concat,upd_upd]
  refine⟨rfl,_,rfl,ite2 (fun hc=>?_) (fun hc=>?_)⟩
  ·have hn:last≠[]:=fun z=>by rw[z,none_is] at hc; simp at hc
   exact⟨show 1<=sizeLine by decide,qx (by rw[rF,if_neg hn]) _ s2⟩
  have hn:last=[]:=by
   rw[none_is] at hc
   simp at hc
   exact oL_inj hc
  rw[if_pos hn] at rF
  refine⟨_,rfl,lw,_,rfl,.inl (SqL.of upd_same),rfl,_,rfl,ite2 (fun hc=>?_) (fun hc=>?_)⟩
  ·have hi:init=[]:=by
    rw[List.length_map] at hc
    simp at hc
    exact hc
   exact⟨show 1<=sizeLine by decide,qx (by rw[rF,hi]) _ s2⟩
  obtain⟨a,r,rfl⟩ : ∃ a r,init=a::r:=by
   cases init with
   | nil=>simp at hc
   | cons a r=>exact⟨a,r,rfl⟩
  dsimp only at rF
  refine⟨_,rfl,lw,_,0,_,rfl,rfl,SqL.of upd_same,at0 _ _,a,rfl,hAi a (by simp),fun cols hcn n1 n6 h dx c d H2 hc0 hd0 s3 hh=>?_,fun hno H2 s3=>?_⟩
  ·rw[hcn] at rF
   dsimp only at rF
   rw[if_pos ⟨n1,n6⟩] at rF
   have c0:=s2.free hc0
   have d0:=s2.free hd0
   have s4:=s2.trans s3
   have e2:=s3 _ _ (upd_same (H:=H) (a:=lw) (o:=.lst ((a::r).map fun m=>V.str (oL m))))
   refine⟨_,rfl,_,rfl,lw,_,rfl,SqL.of e2,fun lc hlc=>?_⟩
   rw[List.map_cons,cut1]
   have s5:=same_new hlc (o:=.lst (r.map fun m=>V.str (oL m)))
   have lcd:lc≠d:=Ne.symm (ne_of_none hh.dt hlc)
   refine⟨lc,rfl,⟨_,SqL.of upd_same⟩,for_list (K:=K) (a:=lc) (xs:=r.map fun m=>V.str (oL m)) (fun i σ H3=>Same H H3/\H3 lc=some (.lst (r.map fun m=>V.str (oL m)))/\(∃ ts,doorsF cols.length [] (r.take i)=some ts/\HallAt C H3 h dx c d cols ts)/\∃ u v x,σ=[u,v,some (.ref h),x]) ?_ ?_ ?_ ?_⟩
   ·exact⟨s4.trans s5,upd_same,⟨[],rfl,hh.same s5⟩,_,_,_,rfl⟩
   ·rintro i σ H3 hi ⟨_,e,_⟩
    exact SqL.of e
   ·rintro i x σ H3 hx ⟨s6,e6,⟨ts,t1,a6⟩,u,v,z,rfl⟩
    rw[List.getElem?_map] at hx
    obtain⟨m,hm,rfl⟩:=Option.map_eq_some_iff.mp hx
    have tl:=(doorsF_len t1).2 (by simp)
    refine⟨_,rfl,_,rfl,h,dx,c,d,cols,ts,m,rfl,a6,tl,hAi m (List.mem_cons_of_mem _ (List.mem_of_getElem? hm)),fun us hs H4 s7 a7=>?_,fun hs H4 s7=>?_⟩
    ·exact⟨fun b o e=>s7 b o (ne_of_none e d0) (s6 _ _ e),s7 _ _ lcd e6,⟨us,by rw[doorsF_take t1 hm,hs],a7⟩,_,_,_,rfl⟩
    ·exact qx (by rw[rF,doorsF_none (i:=i+1) (by rw[doorsF_take t1 hm,hs])]; rfl) H4 fun b o e=>s7 b o (ne_of_none e d0) (s6 _ _ e)
   ·rintro σ H3 ⟨s6,e6,⟨ts,t1,a6⟩,u,v,z,rfl⟩
    rw[List.length_map,List.take_length] at t1
    exact⟨_,rfl,q cols ts (by rw[rF,t1]; rfl) h dx c d H3 c0 d0 s6 a6⟩
  ·refine qx ?_ H2 (s2.trans s3)
   rw[rF]
   cases hcn:numsF roomsW a with
   | none=>rfl
   | some cols=>
    dsimp only
    rw[if_neg (hno cols hcn)]
end
end K17
namespace K17
open PySem L2 L3
section
variable {P:Program} {w:World} {K:PySem.W.Frag} {mg:Str->Option Value} {base:Heap} {f fA fB C:Addr} {fd fdA fdB:FuncData}
def badS:List Str:=[Str.ofString "",Str.ofString " ",Str.ofString "door",Str.ofString "door 0",Str.ofString "door 0 0",Str.ofString "door 0 1 0 0",Str.ofString "Door 0 1 0",Str.ofString "door 0 1 0 ",Str.ofString " door 0 1 0",Str.ofString "door  0 1 0",Str.ofString "door 0 01 0",Str.ofString "door 00 1 0",Str.ofString "door 0 1 00",Str.ofString "door 0 1000 0",Str.ofString "door 0 999 60",Str.ofString "door 60 1 0",Str.ofString "door -1 1 0",Str.ofString "door 0 -1 0",Str.ofString "door 0 1 -1",Str.ofString "door 0 +1 0",Str.ofString "door 0 1_0 0",Str.ofString "door 0 1.0 0",Str.ofString "door 0 x 0",Str.ofString "door 0 1 100",Str.ofString "rooms 1",Str.ofString "doors 0 1 0",Str.ofString "none",Str.ofString "door 0 -0 0",Str.ofString "door 0,1,0",Str.ofString "door 0 1 0x"]
def firS:List Str:=[Str.ofString "rooms",Str.ofString "rooms ",Str.ofString "room 1",Str.ofString "Rooms 1",Str.ofString "rooms 01",Str.ofString "rooms -1",Str.ofString "rooms 1000",Str.ofString "rooms  1",Str.ofString "rooms 1 ",Str.ofString " rooms 1",Str.ofString "rooms x",Str.ofString "",Str.ofString "rooms 1_0",Str.ofString "rooms" ++ ⟨(List.replicate (61:Int).toNat (Str.ofString " 1").cps).foldl (·++·) #[]⟩]
theorem badS_ok:∀ s∈badS,badB s.cps.toList=true/\s.cps.toList.length<=250/\(∀ c∈s.cps.toList,c<128)/\10∉s.cps.toList:=by decide +kernel
def firB (l:List Nat):Bool:=match numsF roomsW l with
 | some ns=>!(decide (1<=ns.length)&&decide (ns.length<=60))
 | none=>true
theorem firS_ok:∀ s∈firS,firB s.cps.toList=true/\s.cps.toList.length<=250/\(∀ c∈s.cps.toList,c<128)/\10∉s.cps.toList:=by decide +kernel
theorem firB_no {l:List Nat} (h:firB l=true):∀ ns,numsF roomsW l=some ns->¬ (1<=ns.length/\ns.length<=60):=fun ns e z=>by
 unfold firB at h
 rw[e] at h
 dsimp only at h
 rw[decide_eq_true z.1,decide_eq_true z.2] at h
 cases h
theorem pickS {L:List Str} {i:Int} (h0:0<=i) (h1:i<L.length):∃ s∈L,atI (L.map V.str) i=some (.str s):=by
 obtain⟨j,rfl⟩:=Int.eq_ofNat_of_zero_le h0
 have hl:j<L.length:=by omega
 exact⟨L[j],List.getElem_mem hl,atI_nat (by rw[List.getElem?_map,List.getElem?_eq_getElem hl]; rfl)⟩
def spPick (L:List Str):Sp:=fun vs H Q _=>∃ cell:Int,vs=[.int cell]/\∀ s∈L,∀ H',Same H H'->Q (.str s) H'
theorem scBadLine:FnScope ["cell", "some"] ["cell"] (defScope sBadLine):=⟨rfl,rfl,rfl,by decide +kernel,rfl,by decide +kernel,by decide +kernel⟩
theorem ok_badline (T:Txt mg) (D:DefAt K mg "_law_bad_line" sBadLine ["cell"] f fd):FnOk P w K mg base CX0 1 f fd ["cell"] (spPick badS):=by
 refine D.fn.ok scBadLine (fun vs H Q E h=>?_) (fun cdv A outer s H vs Q E hr h=>?_)
 ·obtain⟨cell,rfl,_⟩:=h
  rfl
 ·obtain⟨cell,rfl,q⟩:=h
  refine⟨_,(@pss_cons _ _ _ _ _ (@ps_set _ _ 1 _ _ _ _ scBadLine.nd rfl (Or.inl rfl) (@pe_lst _ _ _ _ (@pa_strs _ _ _ (by repeat constructor))) sw_list (by first | exact .inl rfl | exact .inr rfl)) (@pss_cons _ _ _ _ _ (@ps_set _ _ 1 _ _ _ _ scBadLine.nd rfl (Or.inl rfl) (@pe_op _ _ _ _ _ _ _ _ op_cat (pv 1) (@pe_lst _ _ _ _ (@pa_strs _ _ _ (by repeat constructor)))) sw_op (by first | exact .inl rfl | exact .inr rfl)) (@pss_cons _ _ _ _ _ (@ps_set _ _ 1 _ _ _ _ scBadLine.nd rfl (Or.inl rfl) (@pe_op _ _ _ _ _ _ _ _ op_cat (pv 1) (@pe_lst _ _ _ _ (@pa_strs _ _ _ (by repeat constructor)))) sw_op (by first | exact .inl rfl | exact .inr rfl)) (@pss_cons _ _ _ _ _ (@ps_set _ _ 1 _ _ _ _ scBadLine.nd rfl (Or.inl rfl) (@pe_op _ _ _ _ _ _ _ _ op_cat (pv 1) (@pe_lst _ _ _ _ (@pa_strs _ _ _ (by repeat constructor)))) sw_op (by first | exact .inl rfl | exact .inr rfl)) (@pss_cons _ _ _ _ _ (@ps_set _ _ 1 _ _ _ _ scBadLine.nd rfl (Or.inl rfl) (@pe_op _ _ _ _ _ _ _ _ op_cat (pv 1) (@pe_lst _ _ _ _ (@pa_strs _ _ _ (by repeat constructor)))) sw_op (by first | exact .inl rfl | exact .inr rfl)) (@pss_one _ _ _ (@ps_ret _ _ _ _ (@pe_ix _ _ _ _ _ _ _ ix_list (pv 1) (@pe_op _ _ _ _ _ _ _ _ op_mod (pv 0) (pe_callB call_len_seq rfl T.len PySem.boot_len (pa_cons (pv 1) pa_nil))) (fun _ _=>rfl))))))))),?_⟩
  refine⟨show 9<=sizeLine by decide,fun a1 h1=>?_⟩
  refine⟨_,rfl,show 6<=sizeLine by decide,fun b2 g2=>⟨a1,b2,_,_,rfl,rfl,same_new g2 _ _ upd_same,upd_same,show 9+6<=sizeLine by decide,fun a2 h2=>?_⟩⟩
  refine⟨_,rfl,show 6<=sizeLine by decide,fun b3 g3=>⟨a2,b3,_,_,rfl,rfl,same_new g3 _ _ upd_same,upd_same,show 15+6<=sizeLine by decide,fun a3 h3=>?_⟩⟩
  refine⟨_,rfl,show 7<=sizeLine by decide,fun b4 g4=>⟨a3,b4,_,_,rfl,rfl,same_new g4 _ _ upd_same,upd_same,show 21+7<=sizeLine by decide,fun a4 h4=>?_⟩⟩
  refine⟨_,rfl,show 2<=sizeLine by decide,fun b5 g5=>⟨a4,b5,_,_,rfl,rfl,same_new g5 _ _ upd_same,upd_same,show 28+2<=sizeLine by decide,fun a5 h5=>?_⟩⟩
  obtain⟨s,hs,e⟩:=pickS (L:=badS) (i:=cell % 30) (Int.emod_nonneg _ (by decide)) (Int.emod_lt_of_pos _ (by decide))
  exact⟨_,rfl,_,rfl,_,rfl,a5,badS.map V.str,rfl,.inl (SqL.of upd_same),cell,30,rfl,rfl,show (0:Int)<30 by decide,a5,badS.map V.str,cell % 30,_,rfl,rfl,SqL.of upd_same,e,q s hs _ ((((((((same_new h1).trans (same_new g2)).trans (same_new h2)).trans (same_new g3)).trans (same_new h3)).trans (same_new g4)).trans (same_new h4)).trans ((same_new g5).trans (same_new h5)))⟩
theorem scBadFirst:FnScope ["cell", "some"] ["cell"] (defScope sBadFirst):=⟨rfl,rfl,rfl,by decide +kernel,rfl,by decide +kernel,by decide +kernel⟩
theorem ok_badfirst (T:Txt mg) (D:DefAt K mg "_law_bad_first" sBadFirst ["cell"] f fd):FnOk P w K mg base CX0 1 f fd ["cell"] (spPick firS):=by
 refine D.fn.ok scBadFirst (fun vs H Q E h=>?_) (fun cdv A outer s H vs Q E hr h=>?_)
 ·obtain⟨cell,rfl,_⟩:=h
  rfl
 ·obtain⟨cell,rfl,q⟩:=h
  refine⟨_,(@pss_cons _ _ _ _ _ (@ps_set _ _ 1 _ _ _ _ scBadFirst.nd rfl (Or.inl rfl) (@pe_lst _ _ _ _ (@pa_strs _ _ _ (by repeat constructor))) sw_list (by first | exact .inl rfl | exact .inr rfl)) (@pss_cons _ _ _ _ _ (@ps_set _ _ 1 _ _ _ _ scBadFirst.nd rfl (Or.inl rfl) (@pe_op _ _ _ _ _ _ _ _ op_cat (pv 1) (@pe_lst _ _ _ _ (pa_cons pe_str (pa_cons pe_str (pa_cons pe_str (pa_cons pe_str (pa_cons (@pe_op _ _ _ _ _ _ _ _ op_add_str pe_str (@pe_op _ _ _ _ _ _ _ _ op_rep_str pe_str pe_int)) pa_nil))))))) sw_op (by first | exact .inl rfl | exact .inr rfl)) (@pss_one _ _ _ (@ps_ret _ _ _ _ (@pe_ix _ _ _ _ _ _ _ ix_list (pv 1) (@pe_op _ _ _ _ _ _ _ _ op_mod (pv 0) (pe_callB call_len_seq rfl T.len PySem.boot_len (pa_cons (pv 1) pa_nil))) (fun _ _=>rfl)))))),?_⟩
  refine⟨show 9<=sizeLine by decide,fun a1 h1=>?_⟩
  refine⟨_,rfl,Str.ofString " 1",61,rfl,rfl,by decide,by decide +kernel,_,_,rfl,rfl,by decide +kernel,show 5<=sizeLine by decide,fun b2 g2=>⟨a1,b2,_,_,rfl,rfl,same_new g2 _ _ upd_same,upd_same,show 9+5<=sizeLine by decide,fun a2 h2=>?_⟩⟩
  obtain⟨s,hs,e⟩:=pickS (L:=firS) (i:=cell % 14) (Int.emod_nonneg _ (by decide)) (Int.emod_lt_of_pos _ (by decide))
  exact⟨_,rfl,_,rfl,_,rfl,a2,firS.map V.str,rfl,.inl (SqL.of upd_same),cell,14,rfl,rfl,show (0:Int)<14 by decide,a2,firS.map V.str,cell % 14,_,rfl,rfl,SqL.of upd_same,e,q s hs _ (((same_new h1).trans (same_new g2)).trans (same_new h2))⟩
theorem nt_len {n:Int} (h:0<=n/\n<1000):(nt n).length<=3:=by rw[nt_oL,oL_len]; exact (dg_len h.1 h.2).2
theorem log_of {n:Int} (h0:0<=n) (h1:n<1000):n.natAbs.log2<1920:=tell_of (by omega) (by omega)
def spLines (K:PySem.W.Frag):Sp:=fun vs H Q _=>∃ (ld:Addr) (ts:List (List Int)),vs=[.ref ld]/\Told K H ld ts/\Fits 60 ts/\ts.length<=400/\∀ l H',H l=none->Same H H'->H' l=some (.lst (lnV (ts.map (lineL doorW))))->Q (.ref l) H'
theorem scLines:FnScope ["doors", "out", "a", "name", "b"] ["doors"] (defScope sLines):=⟨rfl,rfl,rfl,by decide +kernel,rfl,by decide +kernel,by decide +kernel⟩
theorem ok_lines (T:Txt mg) (TN:TxtN mg) (D:DefAt K mg "_law_lines" sLines ["doors"] f fd):FnOk P w K mg base CX0 1 f fd ["doors"] (spLines K):=by
 refine D.fn.ok scLines (fun vs H Q E h=>?_) (fun cdv A outer s H vs Q E hr h=>?_)
 ·obtain⟨ld,ts,rfl,_⟩:=h
  rfl
 ·obtain⟨ld,ts,rfl,to,ft,n4,q⟩:=h
  refine⟨_,(@pss_cons _ _ _ _ _ (@ps_set _ _ 1 _ _ _ _ scLines.nd rfl (Or.inl rfl) (@pe_lst _ _ _ _ pa_nil) (by rfl) (by first | exact .inl rfl | exact .inr rfl)) (@pss_cons _ _ _ _ _ (ps_for PassesOwn.never rfl (pi_list (pv 0)) (pg_tup rfl (pgs_cons (pg_name (i:=2) scLines.nd rfl (Or.inl rfl)) (pgs_cons (pg_name (i:=3) scLines.nd rfl (Or.inl rfl)) (pgs_cons (pg_name (i:=4) scLines.nd rfl (Or.inl rfl)) pgs_nil)))) (@pss_one _ _ _ (ps_expr (pe_bm PySem.F.plainAttrs_list PySem.F.slot_list_append PySem.F.type_list_append mt_append (pv 1) (pa_cons (@pe_op _ _ _ _ _ _ _ _ op_add_str (pe_bm PySem.F.plainAttrs_str PySem.F.slot_str_join PySem.F.type_str_join mt_join pe_str (pa_cons (@pe_lst _ _ _ _ (pa_cons pe_str (pa_cons (pe_callTy call_str_int rfl TN.str bStr (pa_cons (pv 2) pa_nil)) (pa_cons (pe_callTy call_str_int rfl TN.str bStr (pa_cons (pv 3) pa_nil)) (pa_cons (pe_callTy call_str_int rfl TN.str bStr (pa_cons (pv 4) pa_nil)) pa_nil))))) pa_nil)) pe_str) pa_nil))))) (@pss_one _ _ _ (@ps_ret _ _ _ _ (pv 1))))),?_⟩
  refine⟨show 0<=sizeLine by decide,fun l hl=>?_⟩
  have s1:=same_new hl (o:=.lst [])
  obtain⟨xs,x1,x2⟩:=id (Told.same s1 to)
  have xl:xs.length=ts.length:=Told.len x2
  have hld:ld≠l:=by
   obtain⟨ys,y1,_⟩:=to
   exact ne_of_none y1 hl
  refine⟨_,rfl,ld,rfl,⟨_,SqL.of x1⟩,for_list (K:=K) (a:=ld) (xs:=xs) (fun i σ H2=>Same H H2/\ToldX K H2 ld ts xs/\H2 l=some (.lst (lnV ((ts.take i).map (lineL doorW))))/\∃ v2 v3 v4,σ=[some (.ref ld),some (.ref l),v2,v3,v4]) ?_ ?_ ?_ ?_⟩
  ·exact⟨s1,⟨x1,x2⟩,upd_same,none,none,none,rfl⟩
  ·rintro i σ H2 hi ⟨_,⟨e,y⟩,_⟩
   exact SqL.of e
  ·rintro i x σ H2 hx ⟨s2,tx,e2,v2,v3,v4,rfl⟩
   obtain⟨t,pt,ht,rfl,hpt⟩:=tx.at hx
   obtain⟨a,m,b,rfl,ra,rm,rb⟩:=ft t (List.mem_of_getElem? ht)
   have il:i<ts.length:=(List.getElem?_eq_some_iff.mp ht).1
   have ra':0<=a/\a<1000:=by omega
   have rb':0<=b/\b<1000:=by omega
   have hn:∀ n∈[a,m,b],0<=n/\n<1000:=fun n hn=>by
    simp at hn
    rcases hn with rfl | rfl | rfl <;> assumption
   refine⟨pt,_,rfl,hpt,rfl,_,_,rfl,_,_,rfl,_,_,rfl,rfl,?_⟩
   refine⟨_,rfl,.inl ⟨rfl,_,SqL.of e2⟩,rfl,_,rfl,a,rfl,log_of ra'.1 ra'.2,_,rfl,m,rfl,log_of rm.1 rm.2,_,rfl,b,rfl,log_of rb'.1 rb'.2,show 4<=sizeLine by decide,fun l3 hl3=>?_⟩
   have s3:=same_new hl3 (o:=.lst [V.str (oL doorW),V.str (nt a),V.str (nt m),V.str (nt b)])
   have ll:=line_len (w:=doorW) hn
   refine⟨Str.ofString " ",l3,[oL doorW,nt a,nt m,nt b],rfl,rfl,SqL.of (by rw[upd_same,← door_is]; rfl),by rw[blank_is,oL_len]; decide,?_,?_⟩
   ·have:=nt_len ra'
    have:=nt_len rm
    have:=nt_len rb'
    have e:(oL doorW).length=4:=oL_len doorW
    simp
    omega
   rw[blank_is,show ([oL doorW,nt a,nt m,nt b]:List Str)=oL doorW::[a,m,b].map nt from rfl,join_line]
   refine⟨_,_,rfl,rfl,by rw[end_is,oL_len,oL_len]; exact Nat.le_of_lt (small1000 (by simp at ll ⊢; omega)),?_⟩
   rw[end_is,oL_app]
   have nl3:l≠l3:=ne_of_none e2 hl3
   refine⟨l,_,_,rfl,rfl,by rw[upd_ne nl3]; exact e2,by rw[List.length_map,List.length_map,List.length_take]; exact small1000 (by omega),?_⟩
   refine⟨fun b o e=>by rw[upd_ne (ne_of_none e hl),upd_ne (ne_of_none (s2 _ _ e) hl3)]; exact s2 _ _ e,?_,?_,_,_,_,rfl⟩
   ·exact (tx.same (same_new hl3)).put (by rw[upd_ne nl3]; exact e2) hld
   ·rw[upd_same,take_step ht,List.map_append]
    unfold lnV
    rw[List.map_append]; rfl
  ·rintro σ H2 ⟨s2,tx,e2,v2,v3,v4,rfl⟩
   rw[xl,List.take_length] at e2
   exact⟨_,rfl,q l H2 hl s2 e2⟩
end
end K17
namespace K17
open PySem L2 L3
section
variable {P:Program} {w:World} {K:PySem.W.Frag} {mg:Str->Option Value} {base:Heap} {f fF fL C:Addr} {fd fdF fdL:FuncData}
def spSpoiled:Sp:=fun vs H Q _=>∃ (cols:List Int) (ts:List (List Int)) (ll:Addr) (cell:Int),vs=[.str (oL (lineL roomsW cols++[10])),.ref ll,.int cols.length,.int cell]/\0<=cell/\(∀ n∈cols,0<=n/\n<1000)/\1<=cols.length/\cols.length<=60/\ts.Nodup/\Fits cols.length ts/\ts.length<=400/\H ll=some (.lst (lnV (ts.map (lineL doorW)))) /\
 ∀ t H',readF t=none->Asc t->Same H H'->Q (.str (oL t)) H'
theorem scSpoiled:FnScope ["head", "lines", "size", "cell", "kind", "at", "odd", "more"] ["head", "lines", "size", "cell"] (defScope sSpoiled):=⟨rfl,rfl,rfl,by decide +kernel,rfl,by decide +kernel,by decide +kernel⟩
theorem lnV_app (a b:List (List Nat)):lnV a++lnV b=lnV (a++b):=by unfold lnV; rw[List.map_append]
theorem ln_bad {s:Str} (h:s.cps.toList.length<=250/\(∀ c∈s.cps.toList,c<128)/\10∉s.cps.toList):Ln s.cps.toList:=⟨h.1,h.2.1,h.2.2⟩
theorem str_end (s:Str):s++Str.ofString "\n" = oL (s.cps.toList++[10]):=by
 rw[end_is,← oL_app,oL_of]
theorem len2 {a b:Str} (ha:a.length<=300) (hb:b.length<=300):a.length+b.length<=sizeLine:=Nat.le_trans (Nat.add_le_add ha hb) (by decide)
theorem len2' {a b:Str} (ha:a.length<=10) (hb:b.length<=10):(a++b).length<=300:=by
 have e:(a++b).length=a.length+b.length:=strLen_append _ _
 omega
theorem num_len {n:Int} (h:0<=n/\n<1000):(Str.ofString (toString n)).length<=10:=Nat.le_trans (nt_len h) (by decide)
theorem bad_len {s:Str} (h:s.cps.toList.length<=250):s.length+(Str.ofString "\n").length<=sizeLine:=len2 (by
 have e:s.cps.toList.length=s.length:=Array.length_toList
 omega) (by decide +kernel)
theorem oddA {x:Int} (h0:0<=x) (h1:x<1000):Str.ofString "door " ++ Str.ofString (toString x)++Str.ofString " 1 0\n" = oL (lineL doorW [x,1,0]++[10]):=by
 show Str.ofString "door " ++ nt x++Str.ofString " 1 0\n" = _
 rw[show Str.ofString "door " = oL [100,111,111,114,32] by decide +kernel,show Str.ofString " 1 0\n" = oL [32,49,32,48,10] by decide +kernel,nt_oL,oL_app,oL_app]
 congr 1
 simp[lineL,jn,show dg 1=[49] by decide +kernel,show dg 0=[48] by decide +kernel]
theorem oddB {x:Int} (h0:0<=x) (h1:x<1000):Str.ofString "door 0 " ++ Str.ofString (toString x)++Str.ofString " 0\n" = oL (lineL doorW [0,x,0]++[10]):=by
 show Str.ofString "door 0 " ++ nt x++Str.ofString " 0\n" = _
 rw[show Str.ofString "door 0 " = oL [100,111,111,114,32,48,32] by decide +kernel,show Str.ofString " 0\n" = oL [32,48,10] by decide +kernel,nt_oL,oL_app,oL_app]
 congr 1
 simp[lineL,jn,show dg 0=[48] by decide +kernel]
theorem lnV_cut {ds:List (List Nat)} (j:Nat):(lnV ds).take j=lnV (ds.take j)/\(lnV ds).drop j=lnV (ds.drop j):=by
 unfold lnV
 exact⟨by rw[List.map_take],by rw[List.map_drop]⟩
theorem pick4 (c:Int) (x0 x1 x2 x3:V):∃ x,atI [x0,x1,x2,x3] (c % 4)=some x/\(x=x0\/x=x1\/x=x2\/x=x3):=by
 have h4:c % 4=0\/c % 4=1\/c % 4=2\/c % 4=3:=by omega
 rcases h4 with e | e | e | e <;> rw[e]
 ·exact⟨x0,at0 _ _,.inl rfl⟩
 ·exact⟨x1,at1 _ _ _,.inr (.inl rfl)⟩
 ·exact⟨x2,at2 _ _ _ _,.inr (.inr (.inl rfl))⟩
 ·exact⟨x3,atI_nat (j:=3) rfl,.inr (.inr (.inr rfl))⟩
theorem ok_spoiled (T:Txt mg) (TN:TxtN mg) (DF:DefAt K mg "_law_bad_first" sBadFirst ["cell"] fF fdF) (GF:FnOk P w K mg base CX0 1 fF fdF ["cell"] (spPick firS)) (DL:DefAt K mg "_law_bad_line" sBadLine ["cell"] fL fdL) (GL:FnOk P w K mg base CX0 1 fL fdL ["cell"] (spPick badS))
  (D:DefAt K mg "_law_spoiled" sSpoiled ["head", "lines", "size", "cell"] f fd):FnOk P w K mg base CX0 2 f fd ["head", "lines", "size", "cell"] spSpoiled:=by
 refine D.fn.ok scSpoiled (fun vs H Q E h=>?_) (fun cdv A outer s H vs Q E hr h=>?_)
 ·obtain⟨cols,ts,ll,cell,rfl,_⟩:=h
  rfl
 ·obtain⟨cols,ts,ll,cell,rfl,c0,hc,n1,n6,nd,ft,n4,e0,q⟩:=h
  have hu:=hu64 hr
  have hr1:Room 1 _:=hr.mono (by decide)
  have lr:=ln_rooms hc n6
  have fn:∀ t∈ts,t.length=3/\∀ m∈t,0<=m/\m<1000:=fun t ht=>by
   obtain⟨a,m,b,rfl,ra,rm,rb⟩:=ft t ht
   refine⟨rfl,fun x hx=>?_⟩
   simp at hx
   rcases hx with rfl | rfl | rfl <;> omega
  have ld:∀ l∈ts.map (lineL doorW),Ln l:=fun l hl=>by
   obtain⟨t,ht,rfl⟩:=List.mem_map.mp hl
   exact ln_door (fn t ht)
  have dl:(ts.map (lineL doorW)).length=ts.length:=List.length_map _
  generalize eD:ts.map (lineL doorW)=ds at e0 ld dl
  have vl:(lnV ds).length=ts.length:=by unfold lnV; rw[List.length_map,dl]
  have txt:∀ (ls:List (List Nat)) (H1:Hp) (p:Addr),H1 p=some (.lst (lnV ls))->(∀ l∈ls,Ln l)->ls.length<=410->readF (textL ls)=none->Same H H1->rJoin K (.str (Str.ofString "")) [.ref p] H1 Q:=fun ls H1 p e1 hl hz hr s1=>joins none_is e1 hl hz (q _ _ hr (asc_text hl hz) s1)
  have zl:∀ ls:List (List Nat),(lnV ls).length=ls.length:=fun ls=>by unfold lnV; rw[List.length_map]
  have R:∃ t2,PSs (cxOf CX0 P w K mg base ["head", "lines", "size", "cell", "kind", "at", "odd", "more"] "_law_spoiled" (defScope sSpoiled) f cdv A outer s H E).nox ((defBody sSpoiled).drop 5) t2 /\
    ∀ (k:Int) (j:Nat),j<=ts.length->t2 { nx:=fun _ H'=>Q .non H',rt:=Q } [some (.str (oL (lineL roomsW cols++[10]))),some (.ref ll),some (.int cols.length),some (.int cell),some (.int k),some (.int j),none,none] H:=by
   refine⟨_,(@pss_cons _ _ _ _ _ (@ps_if _ _ _ _ _ _ _ _ (@pt_cmpR _ _ _ _ _ _ _ _ op_eq (pv 4) pe_int (nomark _)) (@pss_cons _ _ _ _ _ (@ps_set _ _ 6 _ _ _ _ scSpoiled.nd rfl (Or.inl rfl) (@pe_op _ _ _ _ _ _ _ _ op_add_str (@pe_op _ _ _ _ _ _ _ _ op_add_str pe_str (pe_callTy call_str_int rfl TN.str bStr (pa_cons (@pe_op _ _ _ _ _ _ _ _ op_add (pv 2) (@pe_op _ _ _ _ _ _ _ _ op_mod (@pe_op _ _ _ _ _ _ _ _ op_fdiv (pv 3) pe_int) pe_int)) pa_nil))) pe_str) (by rfl) (by first | exact .inl rfl | exact .inr rfl)) (@pss_one _ _ _ (@ps_ret _ _ _ _ (pe_bm PySem.F.plainAttrs_str PySem.F.slot_str_join PySem.F.type_str_join mt_join pe_str (pa_cons (@pe_op _ _ _ _ _ _ _ _ op_cat (@pe_op _ _ _ _ _ _ _ _ op_cat (@pe_op _ _ _ _ _ _ _ _ op_cat (@pe_lst _ _ _ _ (pa_cons (pv 0) pa_nil)) (@pe_slice _ _ _ _ _ _ _ _ _ _ sl_list (pv 1) po_none (po_some (pv 5)))) (@pe_lst _ _ _ _ (pa_cons (pv 6) pa_nil))) (@pe_slice _ _ _ _ _ _ _ _ _ _ sl_list (pv 1) (po_some (pv 5)) po_none)) pa_nil))))) pss_nil) (@pss_cons _ _ _ _ _ (@ps_if _ _ _ _ _ _ _ _ (@pt_cmpR _ _ _ _ _ _ _ _ op_eq (pv 4) pe_int (nomark _)) (@pss_one _ _ _ (@ps_ret _ _ _ _ (@pe_ix _ _ _ _ _ _ _ ix_list (@pe_lst _ _ _ _ (pa_cons pe_str (pa_cons pe_str (pa_cons pe_str (pa_cons (pe_bm PySem.F.plainAttrs_str PySem.F.slot_str_join PySem.F.type_str_join mt_join pe_str (pa_cons (pv 1) pa_nil)) pa_nil))))) (@pe_op _ _ _ _ _ _ _ _ op_mod (@pe_op _ _ _ _ _ _ _ _ op_fdiv (pv 3) pe_int) pe_int) (fun _ _=>rfl)))) pss_nil) (@pss_cons _ _ _ _ _ (@ps_if _ _ _ _ _ _ _ _ (@pt_cmpR _ _ _ _ _ _ _ _ op_eq (pv 4) pe_int (nomark _)) (@pss_cons _ _ _ _ _ (ps_setComp (i:=7) (o:=(defScope sSpoiled)) (N:=["head", "lines", "size", "cell", "kind", "at", "odd", "more"]) (N':=["k"]) (src:=[none]) ⟨by rfl,by decide +kernel,by decide +kernel,by decide +kernel,by rfl,by decide +kernel⟩ scSpoiled.nd rfl rfl (pi_range1 rfl T.range (pa_cons pe_int pa_nil)) (fun C s₀ H₀ ex=>(pg_name (i:=0) (show (["k"]:List Str).Nodup by decide +kernel) rfl (Or.inl rfl))) (fun C s₀ H₀ ex=>pifs_nil) (fun C s₀ H₀ ex=>(@pe_op _ _ _ _ _ _ _ _ op_add_str (@pe_op _ _ _ _ _ _ _ _ op_add_str pe_str (pe_callTy call_str_int rfl TN.str bStr (pa_cons (pv 0) pa_nil))) pe_str))) (@pss_one _ _ _ (@ps_ret _ _ _ _ (pe_bm PySem.F.plainAttrs_str PySem.F.slot_str_join PySem.F.type_str_join mt_join pe_str (pa_cons (@pe_op _ _ _ _ _ _ _ _ op_cat (@pe_lst _ _ _ _ (pa_cons (pv 0) pa_nil)) (pv 7)) pa_nil))))) pss_nil) (@pss_cons _ _ _ _ _ (@ps_set _ _ 6 _ _ _ _ scSpoiled.nd rfl (Or.inl rfl) (@pe_op _ _ _ _ _ _ _ _ op_add_str (pe_call GL hr1 rfl DL.mg DL.fn.kp DL.bd .nil pass0 (pa_cons (@pe_op _ _ _ _ _ _ _ _ op_fdiv (pv 3) pe_int) pa_nil)) pe_str) (by rfl) (by first | exact .inl rfl | exact .inr rfl)) (@pss_one _ _ _ (@ps_ret _ _ _ _ (pe_bm PySem.F.plainAttrs_str PySem.F.slot_str_join PySem.F.type_str_join mt_join pe_str (pa_cons (@pe_op _ _ _ _ _ _ _ _ op_cat (@pe_op _ _ _ _ _ _ _ _ op_cat (@pe_op _ _ _ _ _ _ _ _ op_cat (@pe_lst _ _ _ _ (pa_cons (pv 0) pa_nil)) (@pe_slice _ _ _ _ _ _ _ _ _ _ sl_list (pv 1) po_none (po_some (pv 5)))) (@pe_lst _ _ _ _ (pa_cons (pv 6) pa_nil))) (@pe_slice _ _ _ _ _ _ _ _ _ _ sl_list (pv 1) (po_some (pv 5)) po_none)) pa_nil)))))))),?_⟩
   intro k j hj
   refine⟨_,rfl,rfl,_,rfl,ite2 (fun _=>?_) (fun _=>?_)⟩
   ·have hx:0<=(cols.length:Int)+cell/8 % 9/\(cols.length:Int)+cell/8 % 9<1000:=by omega
    refine⟨_,rfl,_,rfl,_,_,rfl,rfl,⟨show (0:Int)<8 by decide,show (8:Int)<1073741824 by decide⟩,_,_,rfl,rfl,show (0:Int)<9 by decide,_,_,rfl,rfl,(cols.length:Int)+cell/8 % 9,rfl,log_of hx.1 hx.2,_,_,rfl,rfl,len2 (by decide +kernel) (Nat.le_trans (num_len hx) (by decide)),_,_,rfl,rfl,len2 (len2' (by decide +kernel) (num_len hx)) (by decide +kernel),?_⟩
    rw[oddA hx.1 hx.2]
    have S0:Same H H:=Same.refl _
    have oln:Ln (lineL doorW [(cols.length:Int)+cell/8 % 9,1,0]):=ln_door ⟨rfl,fun n hn=>by
     simp at hn
     rcases hn with rfl | rfl | rfl <;> omega⟩
    refine⟨rfl,_,rfl,show 1<=sizeLine by decide,fun l1 h1=>?_⟩
    have s1:=same_new h1 (o:=.lst (lnV [lineL roomsW cols]))
    refine⟨_,rfl,_,rfl,(j:Int),rfl,ll,_,rfl,SqL.of (s1 _ _ (S0 _ _ e0)),fun l2 h2=>?_⟩
    rw[cut_to _ j (by rw[vl]; exact hj),(lnV_cut j).1]
    have s2:=s1.trans (same_new h2 (o:=.lst (lnV (ds.take j))))
    refine⟨l1,l2,_,_,rfl,rfl,same_new h2 _ _ upd_same,upd_same,by rw[zl]; exact Nat.le_of_lt (small1000 (by simp; omega)),fun l3 h3=>?_⟩
    have s3:=s2.trans (same_new h3 (o:=.lst (lnV (lineL roomsW cols::ds.take j))))
    refine⟨_,rfl,show 1<=sizeLine by decide,fun l4 h4=>?_⟩
    have s4:=s3.trans (same_new h4 (o:=.lst (lnV [lineL doorW [(cols.length:Int)+cell/8 % 9,1,0]])))
    refine⟨l3,l4,_,_,rfl,rfl,same_new h4 _ _ upd_same,upd_same,by rw[List.length_append,zl]; exact Nat.le_of_lt (small1000 (by simp; omega)),fun l5 h5=>?_⟩
    have s5:=s4.trans (same_new h5 (o:=.lst (lnV (lineL roomsW cols::ds.take j)++lnV [lineL doorW [(cols.length:Int)+cell/8 % 9,1,0]])))
    refine⟨_,rfl,_,rfl,(j:Int),rfl,ll,_,rfl,SqL.of (s5 _ _ (S0 _ _ e0)),fun l6 h6=>?_⟩
    rw[cut_from _ j (by rw[vl]; exact hj),(lnV_cut j).2]
    have s6:=s5.trans (same_new h6 (o:=.lst (lnV (ds.drop j))))
    refine⟨l5,l6,_,_,rfl,rfl,same_new h6 _ _ upd_same,upd_same,by rw[List.length_append,List.length_append,zl,zl]; exact Nat.le_of_lt (small1000 (by simp; omega)),fun l7 h7=>?_⟩
    refine txt ((lineL roomsW cols::ds.take j)++[lineL doorW [(cols.length:Int)+cell/8 % 9,1,0]]++ds.drop j) _ l7 (by rw[upd_same,← lnV_app,← lnV_app]; rfl) (fun l hl=>?_) (by simp; omega) ?_ (S0.trans (s6.trans (same_new h7)))
    ·simp at hl
     rcases hl with rfl | hl | rfl | hl
     ·exact lr
     ·exact ld l (List.mem_of_mem_take hl)
     ·exact oln
     ·exact ld l (List.mem_of_mem_drop hl)
    ·rw[List.cons_append,List.cons_append]
     refine readF_no hc n1 n6 (fun l hl=>?_) (doorsF_bad (l:=lineL doorW [(cols.length:Int)+cell/8 % 9,1,0]) (fun us=>step_line hx (by decide) (by decide) fun z=>by omega) _ [] (by simp))
     simp at hl
     rcases hl with hl | rfl | hl
     ·exact ld l (List.mem_of_mem_take hl)
     ·exact oln
     ·exact ld l (List.mem_of_mem_drop hl)
   refine⟨_,rfl,rfl,_,rfl,ite2 (fun _=>?_) (fun _=>?_)⟩
   ·refine⟨rfl,_,rfl,?_⟩
    dsimp only[tNil]
    refine joins none_is e0 ld (by omega) ?_
    refine⟨show 4<=sizeLine by decide,fun l1 h1=>?_⟩
    have s1:=same_new h1 (o:=.lst [V.str (Str.ofString ""),V.str (Str.ofString "\n"),V.str (Str.ofString "rooms 1"),V.str (oL (textL ds))])
    obtain⟨x,ex,hx⟩:=pick4 (cell/8) (V.str (Str.ofString "")) (V.str (Str.ofString "\n")) (V.str (Str.ofString "rooms 1")) (V.str (oL (textL ds)))
    refine⟨_,rfl,_,_,rfl,rfl,⟨show (0:Int)<8 by decide,show (8:Int)<1073741824 by decide⟩,_,_,rfl,rfl,show (0:Int)<4 by decide,l1,_,_,x,rfl,rfl,SqL.of upd_same,ex,?_⟩
    rcases hx with rfl | rfl | rfl | rfl
    ·rw[none_is]
     exact q [] _ (by decide +kernel) ⟨by decide,by simp⟩ s1
    ·rw[end_is]
     exact q [10] _ (by decide +kernel) ⟨by decide,by simp⟩ s1
    ·rw[show Str.ofString "rooms 1" = oL [114,111,111,109,115,32,49] by decide +kernel]
     exact q _ _ (by decide +kernel) ⟨by decide,by decide⟩ s1
    ·exact q _ _ (by rw[<-eD]; exact readF_doors fn) (asc_text ld (by omega)) s1
   refine⟨_,rfl,rfl,_,rfl,ite2 (fun _=>?_) (fun _=>?_)⟩
   ·refine⟨401,rfl,by decide,by decide,turns_range (lo:=0) (n:=401) (fun i σ ys H'=>H'=H/\(∃ u,σ=[u])/\ys=lnV ((List.range i).map fun m:Nat=>lineL doorW [0,(m:Int),0])) ⟨rfl,⟨none,rfl⟩,rfl⟩ ?_ (Nat.le_of_lt (small1000 (by omega))) ?_ ?_⟩
    ·rintro i σ ys H' hi ⟨_,_,rfl⟩
     rw[List.length_map,List.length_map,List.length_range]; omega
    ·rintro i σ ys H' hi ⟨rfl,⟨u,rfl⟩,rfl⟩
     refine gyes ?_
     rw[Int.zero_add]
     have hx:0<=(i:Int)/\(i:Int)<1000:=by omega
     refine⟨_,rfl,(i:Int),rfl,log_of hx.1 hx.2,_,_,rfl,rfl,len2 (by decide +kernel) (Nat.le_trans (num_len hx) (by decide)),_,_,rfl,rfl,len2 (len2' (by decide +kernel) (num_len hx)) (by decide +kernel),?_⟩
     rw[oddB hx.1 hx.2]
     refine⟨rfl,⟨_,rfl⟩,?_⟩
     rw[List.range_succ,List.map_append,← lnV_app]; rfl
    rintro σ ys H' ⟨rfl,_,rfl⟩
    intro lm hm
    have s1:=same_new hm (o:=.lst (lnV ((List.range 401).map fun m:Nat=>lineL doorW [0,(m:Int),0])))
    refine⟨rfl,_,rfl,show 1<=sizeLine by decide,fun l1 h1=>?_⟩
    have s2:=s1.trans (same_new h1 (o:=.lst (lnV [lineL roomsW cols])))
    refine⟨_,rfl,l1,lm,_,_,rfl,rfl,upd_same,same_new h1 _ _ upd_same,by rw[zl,List.length_map,List.length_range]; exact Nat.le_of_lt (small1000 (by simp)),fun l2 h2=>?_⟩
    have hlm:∀ l∈(List.range 401).map fun m:Nat=>lineL doorW [0,(m:Int),0],Ln l:=fun l hl=>by
     obtain⟨m,hm',rfl⟩:=List.mem_map.mp hl
     have:=List.mem_range.mp hm'
     exact ln_door ⟨rfl,fun n hn=>by
      simp at hn
      rcases hn with rfl | rfl | rfl <;> omega⟩
    refine txt (lineL roomsW cols::(List.range 401).map fun m:Nat=>lineL doorW [0,(m:Int),0]) _ l2 upd_same (fun l hl=>?_) (by simp) (readF_no hc n1 n6 hlm (doorsF_many (by simp))) (s2.trans (same_new h2))
    rcases List.mem_cons.mp hl with rfl | hl
    ·exact lr
    ·exact hlm l hl
   refine⟨_,rfl,_,_,rfl,rfl,⟨show (0:Int)<16 by decide,show (16:Int)<1073741824 by decide⟩,cell/16,rfl,fun sB hs H1 S0=>?_⟩
   have hB:=badS_ok sB hs
   refine⟨_,_,rfl,rfl,bad_len hB.2.1,?_⟩
   rw[str_end]
   refine⟨rfl,_,rfl,show 1<=sizeLine by decide,fun l1 h1=>?_⟩
   have s1:=same_new h1 (o:=.lst (lnV [lineL roomsW cols]))
   refine⟨_,rfl,_,rfl,(j:Int),rfl,ll,_,rfl,SqL.of (s1 _ _ (S0 _ _ e0)),fun l2 h2=>?_⟩
   rw[cut_to _ j (by rw[vl]; exact hj),(lnV_cut j).1]
   have s2:=s1.trans (same_new h2 (o:=.lst (lnV (ds.take j))))
   refine⟨l1,l2,_,_,rfl,rfl,same_new h2 _ _ upd_same,upd_same,by rw[zl]; exact Nat.le_of_lt (small1000 (by simp; omega)),fun l3 h3=>?_⟩
   have s3:=s2.trans (same_new h3 (o:=.lst (lnV (lineL roomsW cols::ds.take j))))
   refine⟨_,rfl,show 1<=sizeLine by decide,fun l4 h4=>?_⟩
   have s4:=s3.trans (same_new h4 (o:=.lst (lnV [sB.cps.toList])))
   refine⟨l3,l4,_,_,rfl,rfl,same_new h4 _ _ upd_same,upd_same,by rw[List.length_append,zl]; exact Nat.le_of_lt (small1000 (by simp; omega)),fun l5 h5=>?_⟩
   have s5:=s4.trans (same_new h5 (o:=.lst (lnV (lineL roomsW cols::ds.take j)++lnV [sB.cps.toList])))
   refine⟨_,rfl,_,rfl,(j:Int),rfl,ll,_,rfl,SqL.of (s5 _ _ (S0 _ _ e0)),fun l6 h6=>?_⟩
   rw[cut_from _ j (by rw[vl]; exact hj),(lnV_cut j).2]
   have s6:=s5.trans (same_new h6 (o:=.lst (lnV (ds.drop j))))
   refine⟨l5,l6,_,_,rfl,rfl,same_new h6 _ _ upd_same,upd_same,by rw[List.length_append,List.length_append,zl,zl]; exact Nat.le_of_lt (small1000 (by simp; omega)),fun l7 h7=>?_⟩
   refine txt ((lineL roomsW cols::ds.take j)++[sB.cps.toList]++ds.drop j) _ l7 (by rw[upd_same,← lnV_app,← lnV_app]; rfl) (fun l hl=>?_) (by simp; omega) ?_ (S0.trans (s6.trans (same_new h7)))
   ·simp at hl
    rcases hl with rfl | hl | rfl | hl
    ·exact lr
    ·exact ld l (List.mem_of_mem_take hl)
    ·exact (ln_bad hB.2)
    ·exact ld l (List.mem_of_mem_drop hl)
   ·rw[List.cons_append,List.cons_append]
    refine readF_no hc n1 n6 (fun l hl=>?_) (doorsF_bad (l:=sB.cps.toList) (fun us=>badB_step hB.1 n6 us) _ [] (by simp))
    simp at hl
    rcases hl with hl | rfl | hl
    ·exact ld l (List.mem_of_mem_take hl)
    ·exact (ln_bad hB.2)
    ·exact ld l (List.mem_of_mem_drop hl)
  obtain⟨t2,hp1,R⟩:=R
  refine⟨_,(@pss_cons _ _ _ _ _ (@ps_set _ _ 4 _ _ _ _ scSpoiled.nd rfl (Or.inl rfl) (@pe_op _ _ _ _ _ _ _ _ op_mod (pv 3) pe_int) (by rfl) (by first | exact .inl rfl | exact .inr rfl)) (@pss_cons _ _ _ _ _ (@ps_set _ _ 5 _ _ _ _ scSpoiled.nd rfl (Or.inl rfl) (@pe_op _ _ _ _ _ _ _ _ op_mod (@pe_op _ _ _ _ _ _ _ _ op_fdiv (pv 3) pe_int) (@pe_op _ _ _ _ _ _ _ _ op_add (pe_callB call_len_seq rfl T.len PySem.boot_len (pa_cons (pv 1) pa_nil)) pe_int)) (by rfl) (by first | exact .inl rfl | exact .inr rfl)) (@pss_cons _ _ _ _ _ (@ps_if _ _ _ _ _ _ _ _ (@pt_cmpR _ _ _ _ _ _ _ _ op_eq (pv 4) pe_int (nomark _)) (@pss_one _ _ _ (@ps_ret _ _ _ _ (pe_bm PySem.F.plainAttrs_str PySem.F.slot_str_join PySem.F.type_str_join mt_join pe_str (pa_cons (@pe_op _ _ _ _ _ _ _ _ op_cat (@pe_lst _ _ _ _ (pa_cons (@pe_op _ _ _ _ _ _ _ _ op_add_str (pe_call GF hr1 rfl DF.mg DF.fn.kp DF.bd .nil pass0 (pa_cons (@pe_op _ _ _ _ _ _ _ _ op_fdiv (pv 3) pe_int) pa_nil)) pe_str) pa_nil)) (pv 1)) pa_nil)))) pss_nil) (@pss_cons _ _ _ _ _ (@ps_if _ _ _ _ _ _ _ _ (@pt_cmpR _ _ _ _ _ _ _ _ op_eq (pv 4) pe_int (nomark _)) (@pss_one _ _ _ (@ps_ret _ _ _ _ (@pe_slice _ _ _ _ _ _ _ _ _ _ sl_strTo (pe_bm PySem.F.plainAttrs_str PySem.F.slot_str_join PySem.F.type_str_join mt_join pe_str (pa_cons (@pe_op _ _ _ _ _ _ _ _ op_cat (@pe_lst _ _ _ _ (pa_cons (pv 0) pa_nil)) (pv 1)) pa_nil)) po_none (po_some (pe_un un_neg pe_int))))) pss_nil) (@pss_cons _ _ _ _ _ (@ps_if _ _ _ _ _ _ _ _ (PW.pt (pw_and (@pt_cmpR _ _ _ _ _ _ _ _ op_eq (pv 4) pe_int (nomark _)) (pw_and1 (@pt_cmpR _ _ _ _ _ _ _ _ op_gt (pe_callB call_len_seq rfl T.len PySem.boot_len (pa_cons (pv 1) pa_nil)) pe_int (nomark _))))) (@pss_one _ _ _ (@ps_ret _ _ _ _ (pe_bm PySem.F.plainAttrs_str PySem.F.slot_str_join PySem.F.type_str_join mt_join pe_str (pa_cons (@pe_op _ _ _ _ _ _ _ _ op_cat (@pe_op _ _ _ _ _ _ _ _ op_cat (@pe_lst _ _ _ _ (pa_cons (pv 0) pa_nil)) (pv 1)) (@pe_lst _ _ _ _ (pa_cons (@pe_ix _ _ _ _ _ _ _ ix_list (pv 1) (@pe_op _ _ _ _ _ _ _ _ op_mod (@pe_op _ _ _ _ _ _ _ _ op_fdiv (pv 3) pe_int) (pe_callB call_len_seq rfl T.len PySem.boot_len (pa_cons (pv 1) pa_nil))) (fun _ _=>rfl)) pa_nil))) pa_nil)))) pss_nil) hp1))))),?_⟩
  refine⟨_,rfl,_,_,rfl,rfl,show (0:Int)<8 by decide,?_⟩
  refine⟨_,rfl,_,_,rfl,rfl,⟨show (0:Int)<8 by decide,show (8:Int)<1073741824 by decide⟩,_,rfl,ll,_,rfl,.inl (SqL.of e0),_,_,rfl,rfl,_,_,rfl,rfl,show (0:Int)<_ by rw[vl]; omega,?_⟩
  have aB:0<=cell/8 % (((lnV ds).length:Int)+1)/\cell/8 % (((lnV ds).length:Int)+1)<((lnV ds).length:Int)+1:=⟨Int.emod_nonneg _ (by omega),Int.emod_lt_of_pos _ (by omega)⟩
  obtain⟨j,ej⟩:=Int.eq_ofNat_of_zero_le aB.1
  have jB:j<=ts.length:=by omega
  dsimp only
  rw[ej]
  refine⟨_,rfl,rfl,_,rfl,ite2 (fun _=>?_) (fun _=>?_)⟩
  ·refine⟨rfl,_,rfl,_,_,rfl,rfl,⟨show (0:Int)<8 by decide,show (8:Int)<1073741824 by decide⟩,cell/8,rfl,fun sB hs H1 S0=>?_⟩
   have hB:=firS_ok sB hs
   refine⟨_,_,rfl,rfl,bad_len hB.2.1,?_⟩
   rw[str_end]
   refine⟨show 1<=sizeLine by decide,fun l1 h1=>?_⟩
   have s1:=S0.trans (same_new h1 (o:=.lst (lnV [sB.cps.toList])))
   refine⟨_,rfl,l1,ll,_,_,rfl,rfl,upd_same,same_new h1 _ _ (S0 _ _ e0),by rw[vl]; exact Nat.le_of_lt (small1000 (by simp; omega)),fun l2 h2=>?_⟩
   refine txt (sB.cps.toList::ds) _ l2 upd_same (fun l hl=>?_) (by simp; omega) (readF_first hB.2.2.2 ld (firB_no hB.1)) (s1.trans (same_new h2))
   rcases List.mem_cons.mp hl with rfl | hl
   ·exact ln_bad hB.2
   ·exact ld l hl
  refine⟨_,rfl,rfl,_,rfl,ite2 (fun _=>?_) (fun _=>?_)⟩
  ·refine⟨rfl,_,rfl,show 1<=sizeLine by decide,fun l1 h1=>?_⟩
   have s1:=same_new h1 (o:=.lst (lnV [lineL roomsW cols]))
   refine⟨_,rfl,l1,ll,_,_,rfl,rfl,upd_same,s1 _ _ e0,by rw[vl]; exact Nat.le_of_lt (small1000 (by simp; omega)),fun l2 h2=>?_⟩
   have la:∀ l∈lineL roomsW cols::ds,Ln l:=fun l hl=>by
    rcases List.mem_cons.mp hl with rfl | hl
    ·exact lr
    ·exact ld l hl
   have At:=asc_text la (by simp; omega)
   dsimp only[tNil]
   refine joins (ls:=lineL roomsW cols::ds) none_is upd_same la (by simp; omega) ?_
   refine⟨1,rfl,-1,rfl,_,-1,rfl,rfl,rfl,by rw[oL_len]; exact Nat.le_trans At.1 (by decide),?_⟩
   rw[slice_last (by rw[text_end]; simp)]
   refine q _ _ (readF_open fun m hm=>⟨(la m hm).one,?_⟩) ⟨Nat.le_trans (by simp) At.1,fun c hc=>At.2 c ((List.dropLast_sublist _).subset hc)⟩ (s1.trans (same_new h2))
   rcases List.mem_cons.mp hm with rfl | hm
   ·exact line_ne (by decide)
   ·rw[<-eD] at hm
    obtain⟨t,ht,rfl⟩:=List.mem_map.mp hm
    exact line_ne (by decide)
  refine⟨_,rfl,rfl,_,rfl,ite2 (fun _=>?_) (fun _=>R _ j jB)⟩
  refine⟨_,rfl,ll,_,rfl,.inl (SqL.of e0),_,_,rfl,rfl,_,rfl,ite2 (fun hz=>?_) (fun _=>R _ j jB)⟩
  have h0:(0:Int)<(lnV ds).length:=of_decide_eq_true hz
  obtain⟨i,ei⟩:=Int.eq_ofNat_of_zero_le (Int.emod_nonneg (cell/8) (show ((lnV ds).length:Int)≠0 by omega))
  have il:cell/8 % ((lnV ds).length:Int)<(lnV ds).length:=Int.emod_lt_of_pos _ h0
  have it:i<ts.length:=by omega
  refine⟨rfl,_,rfl,show 1<=sizeLine by decide,fun l1 h1=>?_⟩
  have s1:=same_new h1 (o:=.lst (lnV [lineL roomsW cols]))
  refine⟨_,rfl,l1,ll,_,_,rfl,rfl,upd_same,s1 _ _ e0,by rw[vl]; exact Nat.le_of_lt (small1000 (by simp; omega)),fun l2 h2=>?_⟩
  have s2:=s1.trans (same_new h2 (o:=.lst (lnV (lineL roomsW cols::ds))))
  have ea:atI (lnV ds) (cell/8 % ((lnV ds).length:Int))=some (V.str (oL (lineL doorW ts[i]++[10]))):=by
   rw[ei]
   refine atI_nat ?_
   rw[<-eD,List.getElem?_map,List.getElem?_map,List.getElem?_eq_getElem it]; rfl
  refine⟨_,rfl,_,rfl,_,_,rfl,rfl,⟨show (0:Int)<8 by decide,show (8:Int)<1073741824 by decide⟩,_,rfl,ll,_,rfl,.inl (SqL.of (s2 _ _ e0)),_,_,rfl,rfl,h0,ll,_,_,_,rfl,rfl,SqL.of (s2 _ _ e0),ea,show 1<=sizeLine by decide,fun l3 h3=>?_⟩
  refine⟨l2,l3,_,_,rfl,rfl,same_new h3 _ _ upd_same,upd_same,by rw[List.length_append,vl]; exact Nat.le_of_lt (small1000 (by simp; omega)),fun l4 h4=>?_⟩
  have hl2:∀ l∈ds++[lineL doorW ts[i]],Ln l:=fun l hl=>by
   rcases List.mem_append.mp hl with hl | hl
   ·exact ld l hl
   ·simp at hl
    rw[hl]
    exact ln_door (fn _ (List.getElem_mem it))
  refine txt (lineL roomsW cols::(ds++[lineL doorW ts[i]])) _ l4 (by rw[upd_same,← List.cons_append,← lnV_app]; rfl) (fun l hl=>?_) (by simp; omega) (readF_no hc n1 n6 hl2 ?_) (s2.trans ((same_new h3).trans (same_new h4)))
  ·rcases List.mem_cons.mp hl with rfl | hl
   ·exact lr
   ·exact hl2 l hl
  ·rw[<-eD]
   exact doorsF_twice nd ft n6 n4 (List.getElem_mem it)
end
end K17
namespace K17
open PySem L2 L3
abbrev intsD (ns:List Int):PyData:=.list (ns.map .int)
theorem den_ints {K:PySem.W.Frag} {H:Hp} {l:Addr} {ns:List Int} (h:SqL K H l (ns.map V.int)):Den K H (intsD ns) (.ref l):=⟨l,_,rfl,h,denL_ints ns⟩
theorem can_intsD (ns:List Int):(intsD ns).canLay0=true:=by
 show PyData.canLay0 (.list _)=true
 rw[PyData.canLay0]; exact can_ints ns
theorem dep_intsD (ns:List Int):(intsD ns).depth<=60:=by
 show PyData.depth (.list _)<=60
 rw[PyData.depth]
 have:=dep_ints ns
 omega
theorem eqv_intsD (ns:List Int):PyData.eqv (intsD ns) (intsD ns)=true:=PySem.SeqAt.eqv_refl _ (can_intsD ns)
theorem DenL.take {K:PySem.W.Frag} {H:Hp}:∀ {ds:List PyData} {vs:List V},DenL K H ds vs->∀ n,DenL K H (ds.take n) (vs.take n)
 | [],vs,h,n=>by
  have e:vs=[]:=h
  subst e
  cases n <;> rfl
 | d::r,vs,h,0=>rfl
 | d::r,vs,h,n+1=>by
  obtain⟨v,ws,e,h1,h2⟩:=(show ∃ v ws,vs=v::ws/\Den K H d v/\DenL K H r ws from h)
  subst e
  exact⟨v,ws.take n,rfl,h1,DenL.take h2 n⟩
theorem DenL.drop {K:PySem.W.Frag} {H:Hp}:∀ {ds:List PyData} {vs:List V},DenL K H ds vs->∀ n,DenL K H (ds.drop n) (vs.drop n)
 | [],vs,h,n=>by
  have e:vs=[]:=h
  subst e
  cases n <;> rfl
 | d::r,vs,h,0=>h
 | d::r,vs,h,n+1=>by
  obtain⟨v,ws,e,h1,h2⟩:=(show ∃ v ws,vs=v::ws/\Den K H d v/\DenL K H r ws from h)
  subst e
  exact DenL.drop h2 n
section
variable {P:Program} {w:World} {K:PySem.W.Frag} {mg:Str->Option Value} {base:Heap} {f fC fD fN fS fF fR fZ fO fL C CE CR CD CT CB:Addr} {fd fdC fdD fdN fdS fdF fdR fdZ fdO fdL:FuncData}
def spRefused:Sp:=fun vs H Q _=>∃ t:List Nat,vs=[.str (oL t)]/\Asc t/\readF t=none/\∀ H',Same H H'->Q (.bl true) H'
theorem scRefused:FnScope ["text", "marks", "e"] ["text"] (defScope sRefused):=⟨rfl,rfl,rfl,by decide +kernel,rfl,by decide +kernel,by decide +kernel⟩
theorem ok_refused (T:Txt mg) (XS:ExN K mg CE CR CD CT CB) (DR:DefAt K mg "read" sRead ["text"] fR fdR) (GR:FnOk P w K mg base (CXB false P w) 4 fR fdR ["text"] (spRead C CB)) (D:DefAt K mg "_law_refused" sRefused ["text"] f fd):FnOk P w K mg base CX0 5 f fd ["text"] spRefused:=by
 refine L3.FnOk.to0 (pl:=true) (L3.Fun.okE (sp:=spRefused) D.fn scRefused (fun vs H Q E h=>?_) (fun cdv A outer s H vs Q E hr h=>?_)) spRefused fun _ _ _ _ h=>h
 ·obtain⟨t,rfl,_⟩:=h
  rfl
 ·obtain⟨t,rfl,hA,hF,q⟩:=h
  have hu:=hu64 hr
  have hr4:Room 4 _:=hr.mono (by decide)
  refine⟨_,(pss_cons (ps_set (i:=1) scRefused.nd rfl (Or.inl rfl) (pe_lst pa_nil)) (pss_cons (ps_try fun pins De=>pss_one (ps_expr (pe_call GR hr4 rfl DR.mg DR.fn.kp DR.bd .nil (pass_try (i:=2) ⟨rfl,rfl,rfl⟩ scRefused.nd rfl rfl rfl XS.e.mg XS.e.xc fun y=>pss_cons (ps_set (i:=1) scRefused.nd rfl (Or.inl rfl) (pe_lst (pa_cons (pe_callB (call_isinstXK (K:=K) (v:=.ref CB) (c:=.ref CB) rfl (fun u h=>h)) rfl T.isi bIsi (pa_cons (pv 2) (pa_cons (pe_glob (v:=.ref CB) rfl XS.b.mg rfl) pa_nil))) (pa_cons (pe_callB (call_isinstXK (K:=K) (v:=.ty "ValueError") (c:=.type "ValueError") rfl (fun u h=>h)) rfl T.isi bIsi (pa_cons (pv 2) (pa_cons (pe_bltn (v:=.ty "ValueError") rfl XS.ve bVE rfl) pa_nil))) (pa_cons (pe_callB (call_isinstXK (K:=K) (v:=.ref CR) (c:=.ref CR) rfl (fun u h=>h)) rfl T.isi bIsi (pa_cons (pv 2) (pa_cons (pe_glob (v:=.ref CR) rfl XS.r.mg rfl) pa_nil))) pa_nil))))) (pss_one (ps_set (i:=1) scRefused.nd rfl (Or.inl rfl) (pe_op op_cat (pv 1) (pe_lst (pa_cons (pe_callB (call_isinstXK (K:=K) (v:=.ref CD) (c:=.ref CD) rfl (fun u h=>h)) rfl T.isi bIsi (pa_cons (pv 2) (pa_cons (pe_glob (v:=.ref CD) rfl XS.d.mg rfl) pa_nil))) (pa_cons (pe_callB (call_isinstXK (K:=K) (v:=.ref CT) (c:=.ref CT) rfl (fun u h=>h)) rfl T.isi bIsi (pa_cons (pv 2) (pa_cons (pe_glob (v:=.ref CT) rfl XS.t.mg rfl) pa_nil))) pa_nil))))))) (pa_cons (pv 0) pa_nil)))) (pss_one (ps_ret (pe_cmpR (op_deq hu) (pv 1) (pe_lst (pa_cons pe_bl (pa_cons pe_bl (pa_cons pe_bl (pa_cons pe_bl (pa_cons pe_bl pa_nil)))))) (nomark _)))))),?_⟩
  refine⟨show 0<=sizeLine by decide,fun l0 hl0=>?_⟩
  have s0:=same_new hl0 (o:=.lst [])
  refine⟨_,rfl,t,rfl,hA,fun cols ts z=>(by rw[hF] at z; cases z),fun _ H1 s1=>?_⟩
  refine⟨CB,rfl,XS.b.xc,XS.b.xa,XS.ube,fun σ x hσ hx=>?_⟩
  obtain⟨v0,v1,v2,rfl⟩ : ∃ v0 v1 v2,σ=[v0,v1,v2]:=by
   match σ,hσ with
   | [v0,v1,v2],_=>exact⟨_,_,_,rfl⟩
  refine⟨_,rfl,x,CB,_,rfl,upd_same,XS.b.xc,XS.b.xa,XS.bb,_,rfl,x,CB,_,rfl,upd_same,XS.b.xc,XS.b.xa,XS.bv,_,rfl,x,CB,_,rfl,upd_same,XS.b.xc,XS.b.xa,XS.br,show 3<=sizeLine by decide,fun l hl=>?_⟩
  have sx:=same_new hx (o:=exH x CB)
  have sl:=same_new hl (o:=.lst [.bl true,.bl true,.bl false])
  refine⟨_,rfl,_,rfl,x,CB,_,rfl,sl _ _ upd_same,XS.b.xc,XS.b.xa,XS.bd,_,rfl,x,CB,_,rfl,sl _ _ upd_same,XS.b.xc,XS.b.xa,XS.bt,show 2<=sizeLine by decide,fun l2 hl2=>?_⟩
  have sl2:=same_new hl2 (o:=.lst [.bl false,.bl false])
  refine⟨l,l2,_,_,rfl,rfl,sl2 _ _ upd_same,upd_same,by decide,fun l3 hl3=>?_⟩
  have sl3:=same_new hl3 (o:=.lst ([.bl true,.bl true,.bl false]++[.bl false,.bl false]))
  refine⟨_,rfl,show 5<=sizeLine by decide,fun l4 hl4=>?_⟩
  refine⟨marksD [true,true,false,false,false],marksD [true,true,false,false,false],den_marks ((same_new hl4) _ _ upd_same),den_marks upd_same,rfl,rfl,by decide +kernel,?_⟩
  exact q _ ((((((s0.trans s1).trans sx).trans sl).trans sl2).trans sl3).trans (same_new hl4))
def spLaw (K:PySem.W.Frag):Sp:=fun vs H Q _=>∃ a ns,vs=[.ref a]/\SqL K H a (List.map V.int ns)/\ns.length<=63/\∀ H',Q (.bl true) H'
theorem scLaw:FnScope ["script", "both", "cut", "lines", "head", "cell", "found"] ["script"] (defScope sLaw):=⟨rfl,rfl,rfl,by decide +kernel,rfl,by decide +kernel,by decide +kernel⟩
theorem line_weight {wd:List Nat} {ns:List Int} (hw:wd.length<=5) (hn:∀ n∈ns,0<=n/\n<1000) (hl:ns.length<=60):((oL wd::ns.map nt).map (·.length)).sum+(oL wd::ns.map nt).length<=1048576:=by
 have h:=StrLaws.sumLen_le (B:=5) (oL wd::ns.map nt) fun y hy=>by
  rcases List.mem_cons.mp hy with rfl | hy
  ·rw[oL_len]; exact hw
  ·obtain⟨n,h,rfl⟩:=List.mem_map.mp hy
   exact Nat.le_trans (nt_len (hn n h)) (by decide)
 rw[List.length_cons,List.length_map] at h ⊢
 omega
theorem ok_law (T:Txt mg) (TN:TxtN mg) (HC:HallC K mg C) (DC:DefAt K mg "_law_cell_at" sCell ["script", "k"] fC fdC) (GC:FnOk P w K mg base CX0 1 fC fdC ["script", "k"] (spCell K)) (DD:DefAt K mg "_law_drawn" sDrawn ["script"] fD fdD) (GD:FnOk P w K mg base CX0 3 fD fdD ["script"] (spDrawn K))
  (DN:DefAt K mg "_law_lines" sLines ["doors"] fN fdN) (GN:FnOk P w K mg base CX0 1 fN fdN ["doors"] (spLines K)) (DS:DefAt K mg "_law_spoiled" sSpoiled ["head", "lines", "size", "cell"] fS fdS) (GS:FnOk P w K mg base CX0 2 fS fdS ["head", "lines", "size", "cell"] spSpoiled)
  (DF:DefAt K mg "_law_refused" sRefused ["text"] fF fdF) (GF:FnOk P w K mg base CX0 5 fF fdF ["text"] spRefused) (DR:DefAt K mg "read" sRead ["text"] fR fdR) (GR:FnOk P w K mg base (CXB false P w) 4 fR fdR ["text"] (spRead C CB))
  (DZ:MetAt K C "size" "Hall.size" sSize ["self"] fZ fdZ) (GZ:FnOk P w K mg base CX0 1 fZ fdZ ["self"] (spSize C)) (DO:MetAt K C "doors" "Hall.doors" sDoors ["self"] fO fdO) (GO:FnOk P w K mg base CX0 1 fO fdO ["self"] (spDoors K C))
  (DL:MetAt K C "colour" "Hall.colour" sColour ["self", "a"] fL fdL) (GL:FnOk P w K mg base (CXE P w) 2 fL fdL ["self", "a"] (spColour C CR)) (F:Fun K "law" "law" sLaw f fd):FnOk P w K mg base CX0 6 f fd ["script"] (spLaw K):=by
 have GL0:=L3.FnOk.to0 GL (fun vs H Q _=>spColour C CR vs H Q E0) fun _ _ _ _ h=>h
 have GR0:=L3.FnOk.to0 GR (fun vs H Q _=>spRead C CB vs H Q E0) fun _ _ _ _ h=>h
 refine F.ok scLaw (fun vs H Q E h=>?_) (fun cdv A outer s H vs Q E hr h=>?_)
 ·obtain⟨a,ns,rfl,_⟩:=h
  rfl
 ·obtain⟨sc,ns,rfl,hS,hlen,q⟩:=h
  have hr1:Room 1 _:=hr.mono (by decide)
  have hr2:Room 2 _:=hr.mono (by decide)
  have hr3:Room 3 _:=hr.mono (by decide)
  have hr4:Room 4 _:=hr.mono (by decide)
  have hu:=hu64 hr
  refine⟨_,(@pss_cons _ _ _ _ _ (@ps_set _ _ 1 _ _ _ _ scLaw.nd rfl (Or.inl rfl) (pe_call GD hr3 rfl DD.mg DD.fn.kp DD.bd .nil pass0 (pa_cons (pv 0) pa_nil)) (by rfl) (by first | exact .inl rfl | exact .inr rfl)) (@pss_cons _ _ _ _ _ (@ps_set _ _ 2 _ _ _ _ scLaw.nd rfl (Or.inl rfl) (@pe_op _ _ _ _ _ _ _ _ op_mod (pe_call GC hr1 rfl DC.mg DC.fn.kp DC.bd .nil pass0 (pa_cons (pv 0) (pa_cons pe_int pa_nil))) (@pe_op _ _ _ _ _ _ _ _ op_add (pe_callB call_len_seq rfl T.len PySem.boot_len (pa_cons (@pe_ix _ _ _ _ _ _ _ ix_tup (pv 1) pe_int (fun _ _=>rfl)) pa_nil)) pe_int)) (by rfl) (by first | exact .inl rfl | exact .inr rfl)) (@pss_cons _ _ _ _ _ (@ps_set _ _ 3 _ _ _ _ scLaw.nd rfl (Or.inl rfl) (pe_call GN hr1 rfl DN.mg DN.fn.kp DN.bd .nil pass0 (pa_cons (@pe_op _ _ _ _ _ _ _ _ op_cat (@pe_slice _ _ _ _ _ _ _ _ _ _ sl_list (@pe_ix _ _ _ _ _ _ _ ix_tup (pv 1) pe_int (fun _ _=>rfl)) (po_some (pv 2)) po_none) (@pe_slice _ _ _ _ _ _ _ _ _ _ sl_list (@pe_ix _ _ _ _ _ _ _ ix_tup (pv 1) pe_int (fun _ _=>rfl)) po_none (po_some (pv 2)))) pa_nil)) (by rfl) (by first | exact .inl rfl | exact .inr rfl)) (@pss_cons _ _ _ _ _ (@ps_set _ _ 4 _ _ _ _ scLaw.nd rfl (Or.inl rfl) (@pe_op _ _ _ _ _ _ _ _ op_add_str (pe_bm PySem.F.plainAttrs_str PySem.F.slot_str_join PySem.F.type_str_join mt_join pe_str (pa_cons (@pe_op _ _ _ _ _ _ _ _ op_cat (@pe_lst _ _ _ _ (@pa_strs _ _ _ (by repeat constructor))) (pe_comp (o:=(defScope sLaw)) (N:=["script", "both", "cut", "lines", "head", "cell", "found"]) (N':=["shade"]) (src:=[none]) ⟨by rfl,by decide +kernel,by decide +kernel,by decide +kernel,by rfl,by decide +kernel⟩ (pi_list (@pe_ix _ _ _ _ _ _ _ ix_tup (pv 1) pe_int (fun _ _=>rfl))) (fun C s₀ H₀ ex=>(pg_name (i:=0) (show (["shade"]:List Str).Nodup by decide +kernel) rfl (Or.inl rfl))) (fun C s₀ H₀ ex=>pifs_nil) (fun C s₀ H₀ ex=>(pe_callTy call_str_int rfl TN.str bStr (pa_cons (pv 0) pa_nil))))) pa_nil)) pe_str) (by rfl) (by first | exact .inl rfl | exact .inr rfl)) (@pss_cons _ _ _ _ _ (@ps_if _ _ _ _ _ _ _ _ (@pt_cmpR _ _ _ _ _ _ _ _ op_gt (@pe_op _ _ _ _ _ _ _ _ op_mod (pe_call GC hr1 rfl DC.mg DC.fn.kp DC.bd .nil pass0 (pa_cons (pv 0) (pa_cons pe_int pa_nil))) pe_int) pe_int (nomark _)) (@pss_cons _ _ _ _ _ (@ps_set _ _ 5 _ _ _ _ scLaw.nd rfl (Or.inl rfl) (@pe_op _ _ _ _ _ _ _ _ op_mod (@pe_op _ _ _ _ _ _ _ _ op_add (@pe_op _ _ _ _ _ _ _ _ op_mul (@pe_op _ _ _ _ _ _ _ _ op_fdiv (pe_call GC hr1 rfl DC.mg DC.fn.kp DC.bd .nil pass0 (pa_cons (pv 0) (pa_cons pe_int pa_nil))) pe_int) pe_int) pe_int) pe_int) (by rfl) (by first | exact .inl rfl | exact .inr rfl)) (@pss_one _ _ _ (@ps_ret _ _ _ _ (pe_call GF hr rfl DF.mg DF.fn.kp DF.bd .nil pass0 (pa_cons (pe_call GS hr2 rfl DS.mg DS.fn.kp DS.bd .nil pass0 (pa_cons (pv 4) (pa_cons (pv 3) (pa_cons (pe_callB call_len_seq rfl T.len PySem.boot_len (pa_cons (@pe_ix _ _ _ _ _ _ _ ix_tup (pv 1) pe_int (fun _ _=>rfl)) pa_nil)) (pa_cons (pv 5) pa_nil))))) pa_nil))))) pss_nil) (@pss_cons _ _ _ _ _ (@ps_set _ _ 6 _ _ _ _ scLaw.nd rfl (Or.inr rfl) (pe_call GR0 hr4 rfl DR.mg DR.fn.kp DR.bd .nil pass0 (pa_cons (pe_bm PySem.F.plainAttrs_str PySem.F.slot_str_join PySem.F.type_str_join mt_join pe_str (pa_cons (@pe_op _ _ _ _ _ _ _ _ op_cat (@pe_lst _ _ _ _ (pa_cons (pv 4) pa_nil)) (pv 3)) pa_nil)) pa_nil)) (by rfl) (by first | exact .inl rfl | exact .inr rfl)) (@pss_cons _ _ _ _ _ (@ps_if _ _ _ _ _ _ _ _ (PW.pt (pw_or (@pt_cmpR _ _ _ _ _ _ _ _ (op_dne hu) (pe_meth0 (pv 6) HC.cls DO.mt GO hr1 DO.bd .nil pass0) (pe_callB call_sortedL rfl T.sorted bSorted (pa_cons (@pe_ix _ _ _ _ _ _ _ ix_tup (pv 1) pe_int (fun _ _=>rfl)) pa_nil)) (nomark _)) (pw_or1 (@pt_cmpR _ _ _ _ _ _ _ _ op_ne (pe_meth0 (pv 6) HC.cls DZ.mt GZ hr1 DZ.bd .nil pass0) (pe_callB call_len_seq rfl T.len PySem.boot_len (pa_cons (@pe_ix _ _ _ _ _ _ _ ix_tup (pv 1) pe_int (fun _ _=>rfl)) pa_nil)) (nomark _))))) (@pss_one _ _ _ (@ps_ret _ _ _ _ pe_bl)) pss_nil) (@pss_one _ _ _ (@ps_ret _ _ _ _ (pe_cmpR (op_deq hu) (pe_comp (o:=(defScope sLaw)) (N:=["script", "both", "cut", "lines", "head", "cell", "found"]) (N':=["a", "found"]) (src:=[none,some 6]) ⟨by rfl,by decide +kernel,by decide +kernel,by decide +kernel,by rfl,by decide +kernel⟩ (pi_range1 rfl T.range (pa_cons (pe_meth0 (pv 6) HC.cls DZ.mt GZ hr1 DZ.bd .nil pass0) pa_nil)) (fun C s₀ H₀ ex=>(pg_name (i:=0) (show (["a", "found"]:List Str).Nodup by decide +kernel) rfl (Or.inl rfl))) (fun C s₀ H₀ ex=>pifs_nil) (fun C s₀ H₀ ex=>(pe_meth (pv 1) HC.cls DL.mt GL0 hr2 DL.bd .nil pass0 (pa_cons (pv 0) pa_nil)))) (@pe_ix _ _ _ _ _ _ _ ix_tup (pv 1) pe_int (fun _ _=>rfl)) (nomark _))))))))))),?_⟩
  refine⟨_,rfl,sc,ns,rfl,hS,fun pb lc ld cs ts H1 hlc hld nlc s1 ep ec to nd ft n1 n2 n3 cr=>?_⟩
  obtain⟨xs,x1,x2⟩:=id to
  have xl:xs.length=ts.length:=Told.len x2
  have hS1:=s1.seq hS
  refine⟨_,rfl,sc,ns,_,rfl,hS1,by decide,_,rfl,pb,_,1,_,rfl,rfl,SqT.of ep,at1 _ _ _,ld,_,rfl,.inl (SqL.of x1),_,_,rfl,rfl,_,_,rfl,rfl,show (0:Int)<(xs.length:Int)+1 by omega,?_⟩
  have aB:0<=cellAt ns 18 % ((xs.length:Int)+1)/\cellAt ns 18 % ((xs.length:Int)+1)<(xs.length:Int)+1:=⟨Int.emod_nonneg _ (by omega),Int.emod_lt_of_pos _ (by omega)⟩
  obtain⟨j,ej⟩:=Int.eq_ofNat_of_zero_le aB.1
  have jB:j<=xs.length:=by omega
  dsimp only
  rw[ej]
  refine⟨_,rfl,pb,_,1,_,rfl,rfl,SqT.of ep,at1 _ _ _,_,rfl,(j:Int),rfl,ld,_,rfl,SqL.of x1,fun l2 h2=>?_⟩
  rw[cut_from _ j jB]
  have s2:=same_new h2 (o:=.lst (xs.drop j))
  refine⟨_,rfl,pb,_,1,_,rfl,rfl,SqT.of (s2 _ _ ep),at1 _ _ _,_,rfl,(j:Int),rfl,ld,_,rfl,SqL.of (s2 _ _ x1),fun l3 h3=>?_⟩
  rw[cut_to _ j jB]
  have s3:=same_new h3 (o:=.lst (xs.take j))
  refine⟨l2,l3,_,_,rfl,rfl,s3 _ _ upd_same,upd_same,by rw[List.length_drop,List.length_take]; exact Nat.le_of_lt (small1000 (by omega)),fun l4 h4=>?_⟩
  have s4:=same_new h4 (o:=.lst (xs.drop j++xs.take j))
  have S4:=s2.trans (s3.trans s4)
  have pm:(ts.drop j++ts.take j).Perm ts:=(List.perm_append_comm).trans (by rw[List.take_append_drop])
  have nd2:(ts.drop j++ts.take j).Nodup:=pm.nodup_iff.mpr nd
  have ft2:Fits cs.length (ts.drop j++ts.take j):=fun t ht=>ft t (pm.subset ht)
  have ul:(ts.drop j++ts.take j).length=ts.length:=pm.length_eq
  have to4:Told K (upd (upd (upd H1 l2 (.lst (xs.drop j))) l3 (.lst (xs.take j))) l4 (.lst (xs.drop j++xs.take j))) l4 (ts.drop j++ts.take j):=⟨_,upd_same,by
   rw[List.map_append,List.map_drop,List.map_take]
   exact DenL.append (DenL.drop (DenL.mono S4 _ _ x2) j) (DenL.take (DenL.mono S4 _ _ x2) j)⟩
  generalize eU:ts.drop j++ts.take j=us at pm nd2 ft2 ul to4
  refine⟨l4,us,rfl,to4,fits_mono ft2 (by omega),by omega,fun ll H5 hll s5 e5=>?_⟩
  have S5:=S4.trans s5
  have fn:∀ t∈us,t.length=3/\∀ m∈t,0<=m/\m<1000:=fun t ht=>by
   obtain⟨a,m,b,rfl,ra,rm,rb⟩:=ft2 t ht
   refine⟨rfl,fun x hx=>?_⟩
   simp at hx
   rcases hx with rfl | rfl | rfl <;> omega
  have ln:∀ l∈us.map (lineL doorW),Ln l:=fun l hl=>by
   obtain⟨t,ht,rfl⟩:=List.mem_map.mp hl
   exact ln_door (fn t ht)
  have lr:=ln_rooms cr (show cs.length<=60 by omega)
  refine⟨rfl,show 1<=sizeLine by decide,fun a1 g1=>?_⟩
  have s6:=same_new g1 (o:=.lst [V.str (Str.ofString "rooms")])
  have S6:=S5.trans s6
  refine⟨_,rfl,pb,_,0,_,rfl,rfl,SqT.of (S6 _ _ ep),at0 _ _,lc,rfl,⟨_,SqL.of (S6 _ _ ec)⟩,turns_list (K:=K) (a:=lc) (xs:=cs.map V.int) (fun j σ ys H7=>H7=upd H5 a1 (.lst [V.str (Str.ofString "rooms")])/\(∃ k,σ=[k])/\ys=((cs.take j).map nt).map V.str) ⟨rfl,⟨none,rfl⟩,rfl⟩ ?_ ?_ ?_ ?_⟩
  ·rintro i σ ys H7 hi ⟨rfl,_,rfl⟩
   refine⟨SqL.of (S6 _ _ ec),?_⟩
   rw[List.length_map,List.length_map,List.length_take]; omega
  ·rw[List.length_map]; exact Nat.le_of_lt (small1000 (by omega))
  ·rintro i x σ ys H7 hx ⟨rfl,⟨k,rfl⟩,rfl⟩
   rw[List.getElem?_map] at hx
   obtain⟨n,en,rfl⟩:=Option.map_eq_some_iff.mp hx
   have hb:=cr n (List.mem_of_getElem? en)
   refine gyes ?_
   refine⟨_,rfl,n,rfl,log_of hb.1 hb.2,?_⟩
   refine⟨rfl,⟨_,rfl⟩,?_⟩
   rw[List.take_add_one,en,List.map_append,List.map_append]; rfl
  rintro σ ys H7 ⟨rfl,_,rfl⟩
  rw[List.length_map,List.take_length]
  intro a2 g2
  have s7:=same_new g2 (o:=.lst ((cs.map nt).map V.str))
  refine⟨a1,a2,_,_,rfl,rfl,s7 _ _ upd_same,upd_same,by rw[List.length_map,List.length_map]; exact Nat.le_of_lt (small1000 (by simp; omega)),fun a3 g3=>?_⟩
  have s8:=same_new g3 (o:=.lst ([V.str (Str.ofString "rooms")]++(cs.map nt).map V.str))
  refine⟨Str.ofString " ",a3,oL roomsW::cs.map nt,rfl,rfl,SqL.of (by rw[<-rooms_is]; exact upd_same),by rw[blank_is,oL_len]; decide,line_weight (by decide) cr (by omega),?_⟩
  rw[blank_is,join_line]
  refine⟨_,_,rfl,rfl,by rw[end_is,oL_len,oL_len]; exact Nat.le_of_lt (small1000 (by have:=lr.len; simp; omega)),?_⟩
  rw[end_is,oL_app]
  have S8:=S6.trans (s7.trans s8)
  have hS8:=(s1.trans S8).seq hS
  have e8:=(s6.trans (s7.trans s8)) _ _ e5
  refine⟨_,rfl,sc,ns,_,rfl,hS8,by decide,_,_,rfl,rfl,show (0:Int)<3 by decide,_,_,rfl,rfl,_,rfl,ite2 (fun _=>?_) (fun _=>?_)⟩
  ·refine⟨_,rfl,sc,ns,_,rfl,hS8,by decide,_,_,rfl,rfl,⟨show (0:Int)<3 by decide,show (3:Int)<1073741824 by decide⟩,_,_,rfl,rfl,.inr ⟨show -(2 ^ 64)<(48271:Int) by decide,show (48271:Int)<2 ^ 64 by decide⟩,_,_,rfl,rfl,_,_,rfl,rfl,show (0:Int)<2147483647 by decide,?_⟩
   refine⟨_,rfl,_,rfl,_,rfl,pb,_,0,_,rfl,rfl,SqT.of (S8 _ _ ep),at0 _ _,lc,_,rfl,.inl (SqL.of (S8 _ _ ec)),_,rfl,cs,us,ll,_,by rw[List.length_map]; rfl,Int.emod_nonneg _ (by decide),cr,n1,by omega,nd2,ft2,by omega,e8,fun t H9 hF hA s9=>?_⟩
   exact⟨t,rfl,hA,hF,fun H' _=>q H'⟩
  ·refine⟨rfl,_,rfl,show 1<=sizeLine by decide,fun b1 i1=>?_⟩
   have s9:=same_new i1 (o:=.lst (lnV [lineL roomsW cs]))
   refine⟨_,rfl,b1,ll,_,_,rfl,rfl,upd_same,s9 _ _ e8,by rw[List.length_map,List.length_map]; exact Nat.le_of_lt (small1000 (by simp; omega)),fun b2 i2=>?_⟩
   have s10:=same_new i2 (o:=.lst (lnV (lineL roomsW cs::us.map (lineL doorW))))
   have S10:=S8.trans (s9.trans s10)
   have la:∀ l∈lineL roomsW cs::us.map (lineL doorW),Ln l:=fun l hl=>by
    rcases List.mem_cons.mp hl with rfl | hl
    ·exact lr
    ·exact ln l hl
   dsimp only[tNil]
   refine joins (ls:=lineL roomsW cs::us.map (lineL doorW)) none_is upd_same la (by simp; omega) ?_
   have rF:readF (textL (lineL roomsW cs::us.map (lineL doorW)))=some (cs,us):=by
    rw[readF_rooms cr n1 (by omega) ln,doorsF_good (ts:=[]) (by simpa using nd2) ft2 (by omega) (by simpa using (show us.length<=400 by omega)),List.nil_append]; rfl
   refine⟨_,rfl,asc_text la (by simp; omega),fun cols vs hv h dx c d H11 _ _ s11 hh=>?_,fun z=>(by rw[rF] at z; cases z)⟩
   rw[rF] at hv
   cases hv
   have S11:=S10.trans s11
   refine⟨_,rfl,h,dx,_,rfl,hh.ob,rfl,h,dx,c,d,cs,us,rfl,hh,fun lf tg H12 hlf s12 pg sg tof=>?_⟩
   have S12:=S11.trans s12
   refine⟨_,rfl,pb,_,1,_,rfl,rfl,SqT.of (S12 _ _ ep),at1 _ _ _,?_⟩
   dsimp only[tNil]
   refine told_sort (Kf:=K) (ts:=ts) (Told.same S12 to) (fun t ht e=>by
    obtain⟨a,m,b,rfl,_⟩:=ft t ht
    cases e) fun lg tk H13 hlg s13 pk sk tok=>?_
   have e1:tg=tk:=perm_sorted (pg.trans (pm.trans pk.symm)) sg sk
   subst e1
   refine⟨tsD tg,tsD tg,Told.den (Told.same s13 tof),Told.den tok,can_ts tg,can_ts tg,dep_ts tg,_,rfl,iteN (by rw[eqv_ts]; rfl) ?_⟩
   have hh3:=hh.same (s12.trans s13)
   have S13:=S12.trans s13
   refine⟨_,rfl,h,dx,_,rfl,hh3.ob,rfl,h,dx,c,d,cs,us,rfl,hh3,_,rfl,pb,_,0,_,rfl,rfl,SqT.of (S13 _ _ ep),at0 _ _,lc,_,rfl,.inl (SqL.of (S13 _ _ ec)),rfl,_,rfl,iteN (by rw[List.length_map]; simp) ?_⟩
   refine⟨_,rfl,h,dx,_,rfl,hh3.ob,rfl,h,dx,c,d,cs,us,rfl,hh3,(cs.length:Int),rfl,by omega,by omega,turns_range (lo:=0) (n:=cs.length) (fun i σ ys H'=>H'=H13/\(∃ k,σ=[k,some (.ref h)])/\ys=(cs.take i).map V.int) ⟨rfl,⟨none,rfl⟩,rfl⟩ ?_ (Nat.le_of_lt (small1000 (by omega))) ?_ ?_⟩
   ·rintro i σ ys H' hi ⟨_,_,rfl⟩
    rw[List.length_map,List.length_take]; omega
   ·rintro i σ ys H' hi ⟨rfl,⟨k,rfl⟩,rfl⟩
    refine gyes ?_
    rw[Int.zero_add]
    refine⟨_,rfl,h,dx,_,rfl,hh3.ob,rfl,_,rfl,h,dx,c,d,cs,us,(i:Int),rfl,hh3,tell_of (by omega) (by omega),fun _=>?_,fun z=>z (by omega)⟩
    refine⟨rfl,⟨_,rfl⟩,?_⟩
    rw[List.take_add_one,List.getElem?_eq_getElem hi,List.map_append]
    simp[List.getD,List.getElem?_eq_getElem hi]
   rintro σ ys H' ⟨rfl,_,rfl⟩
   intro p hp
   rw[List.take_length]
   have s14:=same_new hp (o:=.lst (cs.map V.int))
   refine⟨_,rfl,pb,_,0,_,rfl,rfl,SqT.of (s14 _ _ (S13 _ _ ep)),at0 _ _,intsD cs,intsD cs,den_ints (K:=K) (SqL.of upd_same),den_ints (SqL.of (s14 _ _ (S13 _ _ ec))),can_intsD cs,can_intsD cs,dep_intsD cs,?_⟩
   have e2:(if false=true then !PyData.eqv (intsD cs) (intsD cs) else PyData.eqv (intsD cs) (intsD cs))=true:=by rw[eqv_intsD]; rfl
   rw[e2]
   exact q _
end
end K17
namespace K17
open PySem L2 L3
theorem kit_ref {K:PySem.W.Frag} {C D:Addr} {x:Value} {r b:Bool} (h1:PySem.W.mroIn K D x=some r) (h2:PySem.W.typeIn K (.ref D)=some (.type "type")) (h3:PySem.W.subIn K (.ref C) (.ref D)=some b) (hb:C=D->b=true):PySem.W.kitOne K (.ref C) (.ref D)=some b:=by
 unfold PySem.W.kitOne
 by_cases e:(Value.ref C == Value.ref D)=true
 ·rw[if_pos e]
  have:C=D:=by
   have:=beq_iff_eq.mp e
   injection this
  rw[hb this]
 ·rw[if_neg e]
  have hs:(PySem.W.clsIn K D).isSome=true:=by
   unfold PySem.W.mroIn at h1
   obtain⟨cd,e1,_⟩:=Option.bind_eq_some_iff.mp h1
   rw[e1]; rfl
  unfold PySem.W.kitCls
  dsimp only
  rw[if_pos (by rw[hs,h2]; rfl)]
  exact h3
theorem kit_ty {K:PySem.W.Frag} {C:Addr} {T:String} {b:Bool} (h3:PySem.W.subIn K (.ref C) (.type T)=some b) (hm:PySem.W.kitMeta T=true):PySem.W.kitOne K (.ref C) (.type T)=some b:=by
 unfold PySem.W.kitOne
 rw[if_neg (by intro e; cases (beq_iff_eq.mp e))]
 unfold PySem.W.kitCls
 dsimp only
 rw[if_pos hm]
 exact h3
theorem all_mk {l:PySem.W.OpenLaw} {w:World} {K:PySem.W.Frag} {h:Heap} {mg:Str->Option Value} {fa cH:Addr} {tr td tfi tmo:Tok} (X:K.In h) (G:h.Ns mainGlobals mg) (hfa:mg "law" = some (.ref fa))
  {f0:Addr} {od0 an0:Option Addr} {sl0:Array (Option Value)} {oc0 kV0 dc0 pm0 cd0 ct0:Value}
  {f1:Addr} {od1 an1:Option Addr} {sl1:Array (Option Value)} {oc1 kV1 dc1 pm1 cd1 ct1:Value}
  {f2:Addr} {od2 an2:Option Addr} {sl2:Array (Option Value)} {oc2 kV2 dc2 pm2 cd2 ct2:Value}
  {f3:Addr} {od3 an3:Option Addr} {sl3:Array (Option Value)} {oc3 kV3 dc3 pm3 cd3 ct3:Value}
  {f4:Addr} {od4 an4:Option Addr} {sl4:Array (Option Value)} {oc4 kV4 dc4 pm4 cd4 ct4:Value}
  {f5:Addr} {od5 an5:Option Addr} {sl5:Array (Option Value)} {oc5 kV5 dc5 pm5 cd5 ct5:Value}
  {f6:Addr} {od6 an6:Option Addr} {sl6:Array (Option Value)} {oc6 kV6 dc6 pm6 cd6 ct6:Value}
  {f7:Addr} {od7 an7:Option Addr} {sl7:Array (Option Value)} {oc7 kV7 dc7 pm7 cd7 ct7:Value}
  {f8:Addr} {od8 an8:Option Addr} {sl8:Array (Option Value)} {oc8 kV8 dc8 pm8 cd8 ct8:Value}
  {f9:Addr} {od9 an9:Option Addr} {sl9:Array (Option Value)} {oc9 kV9 dc9 pm9 cd9 ct9:Value}
  {f10:Addr} {od10 an10:Option Addr} {sl10:Array (Option Value)} {oc10 kV10 dc10 pm10 cd10 ct10:Value}
  {f11:Addr} {od11 an11:Option Addr} {sl11:Array (Option Value)} {oc11 kV11 dc11 pm11 cd11 ct11:Value}
  {f12:Addr} {od12 an12:Option Addr} {sl12:Array (Option Value)} {oc12 kV12 dc12 pm12 cd12 ct12:Value}
  {f13:Addr} {od13 an13:Option Addr} {sl13:Array (Option Value)} {oc13 kV13 dc13 pm13 cd13 ct13:Value}
  {f14:Addr} {od14 an14:Option Addr} {sl14:Array (Option Value)} {oc14 kV14 dc14 pm14 cd14 ct14:Value}
  {f15:Addr} {od15 an15:Option Addr} {sl15:Array (Option Value)} {oc15 kV15 dc15 pm15 cd15 ct15:Value}
  {f16:Addr} {od16 an16:Option Addr} {sl16:Array (Option Value)} {oc16 kV16 dc16 pm16 cd16 ct16:Value}
  {fJ:Addr} {odJ anJ:Option Addr} {slJ:Array (Option Value)} {ocJ kVJ dcJ pmJ cdJ ctJ:Value}
  {f100:Addr} {od100 an100:Option Addr} {sl100:Array (Option Value)} {oc100 kV100 dc100 pm100 cd100 ct100:Value}
  {f101:Addr} {od101 an101:Option Addr} {sl101:Array (Option Value)} {oc101 kV101 dc101 pm101 cd101 ct101:Value}
  {f102:Addr} {od102 an102:Option Addr} {sl102:Array (Option Value)} {oc102 kV102 dc102 pm102 cd102 ct102:Value}
  {f103:Addr} {od103 an103:Option Addr} {sl103:Array (Option Value)} {oc103 kV103 dc103 pm103 cd103 ct103:Value}
  {f104:Addr} {od104 an104:Option Addr} {sl104:Array (Option Value)} {oc104 kV104 dc104 pm104 cd104 ct104:Value}
  {e0:Addr}
  {e1:Addr}
  {e2:Addr}
  {e3:Addr}
  {e4:Addr}
  (gH:PySem.W.nsIn K mainGlobals "Hall" = some (some (.ref cH)))
  (a0:PySem.W.nsIn K mainGlobals "_law_cell_at" = some (some (.ref f0)))
  (l0:K.lookup f0=some ⟨oc0,od0,.func (PySem.W.fnOf "_law_cell_at" "_law_cell_at" (defArgs sCell) (defBody sCell) (defScope sCell) .none kV0 dc0 pm0 an0 cd0 ct0),sl0⟩)
  (c0:PySem.W.codeIn K cd0 "_law_cell_at" = true)
  (k0:PySem.W.keepIn K (.ref f0)=true)
  (a1:PySem.W.nsIn K mainGlobals "_law_names" = some (some (.ref f1)))
  (l1:K.lookup f1=some ⟨oc1,od1,.func (PySem.W.fnOf "_law_names" "_law_names" (defArgs sNames) (defBody sNames) (defScope sNames) .none kV1 dc1 pm1 an1 cd1 ct1),sl1⟩)
  (c1:PySem.W.codeIn K cd1 "_law_names" = true)
  (k1:PySem.W.keepIn K (.ref f1)=true)
  (a2:PySem.W.nsIn K mainGlobals "_law_doors_by" = some (some (.ref f2)))
  (l2:K.lookup f2=some ⟨oc2,od2,.func (PySem.W.fnOf "_law_doors_by" "_law_doors_by" (defArgs sDoorsBy) (defBody sDoorsBy) (defScope sDoorsBy) .none kV2 dc2 pm2 an2 cd2 ct2),sl2⟩)
  (c2:PySem.W.codeIn K cd2 "_law_doors_by" = true)
  (k2:PySem.W.keepIn K (.ref f2)=true)
  (a3:PySem.W.nsIn K mainGlobals "_law_colours_by" = some (some (.ref f3)))
  (l3:K.lookup f3=some ⟨oc3,od3,.func (PySem.W.fnOf "_law_colours_by" "_law_colours_by" (defArgs sColoursBy) (defBody sColoursBy) (defScope sColoursBy) .none kV3 dc3 pm3 an3 cd3 ct3),sl3⟩)
  (c3:PySem.W.codeIn K cd3 "_law_colours_by" = true)
  (k3:PySem.W.keepIn K (.ref f3)=true)
  (a4:PySem.W.nsIn K mainGlobals "_law_cover" = some (some (.ref f4)))
  (l4:K.lookup f4=some ⟨oc4,od4,.func (PySem.W.fnOf "_law_cover" "_law_cover" (defArgs sCover) (defBody sCover) (defScope sCover) .none kV4 dc4 pm4 an4 cd4 ct4),sl4⟩)
  (c4:PySem.W.codeIn K cd4 "_law_cover" = true)
  (k4:PySem.W.keepIn K (.ref f4)=true)
  (a5:PySem.W.nsIn K mainGlobals "_law_drawn" = some (some (.ref f5)))
  (l5:K.lookup f5=some ⟨oc5,od5,.func (PySem.W.fnOf "_law_drawn" "_law_drawn" (defArgs sDrawn) (defBody sDrawn) (defScope sDrawn) .none kV5 dc5 pm5 an5 cd5 ct5),sl5⟩)
  (c5:PySem.W.codeIn K cd5 "_law_drawn" = true)
  (k5:PySem.W.keepIn K (.ref f5)=true)
  (a6:PySem.W.nsIn K mainGlobals "read" = some (some (.ref f6)))
  (l6:K.lookup f6=some ⟨oc6,od6,.func (PySem.W.fnOf "read" "read" (defArgs sRead) (defBody sRead) (defScope sRead) .none kV6 dc6 pm6 an6 cd6 ct6),sl6⟩)
  (c6:PySem.W.codeIn K cd6 "read" = true)
  (k6:PySem.W.keepIn K (.ref f6)=true)
  (a7:PySem.W.nsIn K mainGlobals "read_rooms" = some (some (.ref f7)))
  (l7:K.lookup f7=some ⟨oc7,od7,.func (PySem.W.fnOf "read_rooms" "read_rooms" (defArgs sReadRooms) (defBody sReadRooms) (defScope sReadRooms) .none kV7 dc7 pm7 an7 cd7 ct7),sl7⟩)
  (c7:PySem.W.codeIn K cd7 "read_rooms" = true)
  (k7:PySem.W.keepIn K (.ref f7)=true)
  (a8:PySem.W.nsIn K mainGlobals "read_door" = some (some (.ref f8)))
  (l8:K.lookup f8=some ⟨oc8,od8,.func (PySem.W.fnOf "read_door" "read_door" (defArgs sReadDoor) (defBody sReadDoor) (defScope sReadDoor) .none kV8 dc8 pm8 an8 cd8 ct8),sl8⟩)
  (c8:PySem.W.codeIn K cd8 "read_door" = true)
  (k8:PySem.W.keepIn K (.ref f8)=true)
  (a9:PySem.W.nsIn K mainGlobals "numbers_behind" = some (some (.ref f9)))
  (l9:K.lookup f9=some ⟨oc9,od9,.func (PySem.W.fnOf "numbers_behind" "numbers_behind" (defArgs sNumsB) (defBody sNumsB) (defScope sNumsB) .none kV9 dc9 pm9 an9 cd9 ct9),sl9⟩)
  (c9:PySem.W.codeIn K cd9 "numbers_behind" = true)
  (k9:PySem.W.keepIn K (.ref f9)=true)
  (a10:PySem.W.nsIn K mainGlobals "number_of" = some (some (.ref f10)))
  (l10:K.lookup f10=some ⟨oc10,od10,.func (PySem.W.fnOf "number_of" "number_of" (defArgs sNumber) (defBody sNumber) (defScope sNumber) .none kV10 dc10 pm10 an10 cd10 ct10),sl10⟩)
  (c10:PySem.W.codeIn K cd10 "number_of" = true)
  (k10:PySem.W.keepIn K (.ref f10)=true)
  (a11:PySem.W.nsIn K mainGlobals "_law_bad_line" = some (some (.ref f11)))
  (l11:K.lookup f11=some ⟨oc11,od11,.func (PySem.W.fnOf "_law_bad_line" "_law_bad_line" (defArgs sBadLine) (defBody sBadLine) (defScope sBadLine) .none kV11 dc11 pm11 an11 cd11 ct11),sl11⟩)
  (c11:PySem.W.codeIn K cd11 "_law_bad_line" = true)
  (k11:PySem.W.keepIn K (.ref f11)=true)
  (a12:PySem.W.nsIn K mainGlobals "_law_bad_first" = some (some (.ref f12)))
  (l12:K.lookup f12=some ⟨oc12,od12,.func (PySem.W.fnOf "_law_bad_first" "_law_bad_first" (defArgs sBadFirst) (defBody sBadFirst) (defScope sBadFirst) .none kV12 dc12 pm12 an12 cd12 ct12),sl12⟩)
  (c12:PySem.W.codeIn K cd12 "_law_bad_first" = true)
  (k12:PySem.W.keepIn K (.ref f12)=true)
  (a13:PySem.W.nsIn K mainGlobals "_law_lines" = some (some (.ref f13)))
  (l13:K.lookup f13=some ⟨oc13,od13,.func (PySem.W.fnOf "_law_lines" "_law_lines" (defArgs sLines) (defBody sLines) (defScope sLines) .none kV13 dc13 pm13 an13 cd13 ct13),sl13⟩)
  (c13:PySem.W.codeIn K cd13 "_law_lines" = true)
  (k13:PySem.W.keepIn K (.ref f13)=true)
  (a14:PySem.W.nsIn K mainGlobals "_law_spoiled" = some (some (.ref f14)))
  (l14:K.lookup f14=some ⟨oc14,od14,.func (PySem.W.fnOf "_law_spoiled" "_law_spoiled" (defArgs sSpoiled) (defBody sSpoiled) (defScope sSpoiled) .none kV14 dc14 pm14 an14 cd14 ct14),sl14⟩)
  (c14:PySem.W.codeIn K cd14 "_law_spoiled" = true)
  (k14:PySem.W.keepIn K (.ref f14)=true)
  (a15:PySem.W.nsIn K mainGlobals "_law_refused" = some (some (.ref f15)))
  (l15:K.lookup f15=some ⟨oc15,od15,.func (PySem.W.fnOf "_law_refused" "_law_refused" (defArgs sRefused) (defBody sRefused) (defScope sRefused) .none kV15 dc15 pm15 an15 cd15 ct15),sl15⟩)
  (c15:PySem.W.codeIn K cd15 "_law_refused" = true)
  (k15:PySem.W.keepIn K (.ref f15)=true)
  (a16:PySem.W.nsIn K mainGlobals "law" = some (some (.ref f16)))
  (l16:K.lookup f16=some ⟨oc16,od16,.func (PySem.W.fnOf "law" "law" (defArgs sLaw) (defBody sLaw) (defScope sLaw) .none kV16 dc16 pm16 an16 cd16 ct16),sl16⟩)
  (c16:PySem.W.codeIn K cd16 "law" = true)
  (k16:PySem.W.keepIn K (.ref f16)=true)
  (m0:PySem.W.findIn K (.ref cH) "__init__" = some (some (.ref fJ)))
  (lJ:K.lookup fJ=some ⟨ocJ,odJ,.func (PySem.W.fnOf "__init__" "Hall.__init__" (defArgs sInit) (defBody sInit) (defScope sInit) .none kVJ dcJ pmJ anJ cdJ ctJ),slJ⟩)
  (cJ:PySem.W.codeIn K cdJ "Hall.__init__" = true)
  (kJ:PySem.W.keepIn K (.ref fJ)=true)
  (nJ:PySem.W.isFn K (.ref fJ)=true)
  (mk:PySem.W.makesIn K cH=true)
  (kH:PySem.W.keepIn K (.ref cH)=true)
  (h1:PySem.W.plainGet K cH Str.empty=true)
  (h2:PySem.W.hasDictIn K cH=true)
  (h3:PySem.W.plainOver K cH=true)
  (h4:PySem.W.findIn K (.ref cH) "__setattr__" = some (some (.builtin "object.__setattr__")))
  (h5:PySem.W.findIn K (.ref cH) "colours" = some none)
  (h6:PySem.W.findIn K (.ref cH) "door_table" = some none)
  (b100:PySem.W.findIn K (.ref cH) "size" = some (some (.ref f100)))
  (l100:K.lookup f100=some ⟨oc100,od100,.func (PySem.W.fnOf "size" "Hall.size" (defArgs sSize) (defBody sSize) (defScope sSize) .none kV100 dc100 pm100 an100 cd100 ct100),sl100⟩)
  (c100:PySem.W.codeIn K cd100 "Hall.size" = true)
  (k100:PySem.W.keepIn K (.ref f100)=true)
  (n100:PySem.W.isFn K (.ref f100)=true)
  (b101:PySem.W.findIn K (.ref cH) "check_room" = some (some (.ref f101)))
  (l101:K.lookup f101=some ⟨oc101,od101,.func (PySem.W.fnOf "check_room" "Hall.check_room" (defArgs sCheck) (defBody sCheck) (defScope sCheck) .none kV101 dc101 pm101 an101 cd101 ct101),sl101⟩)
  (c101:PySem.W.codeIn K cd101 "Hall.check_room" = true)
  (k101:PySem.W.keepIn K (.ref f101)=true)
  (n101:PySem.W.isFn K (.ref f101)=true)
  (b102:PySem.W.findIn K (.ref cH) "colour" = some (some (.ref f102)))
  (l102:K.lookup f102=some ⟨oc102,od102,.func (PySem.W.fnOf "colour" "Hall.colour" (defArgs sColour) (defBody sColour) (defScope sColour) .none kV102 dc102 pm102 an102 cd102 ct102),sl102⟩)
  (c102:PySem.W.codeIn K cd102 "Hall.colour" = true)
  (k102:PySem.W.keepIn K (.ref f102)=true)
  (n102:PySem.W.isFn K (.ref f102)=true)
  (b103:PySem.W.findIn K (.ref cH) "open_door" = some (some (.ref f103)))
  (l103:K.lookup f103=some ⟨oc103,od103,.func (PySem.W.fnOf "open_door" "Hall.open_door" (defArgs sOpen) (defBody sOpen) (defScope sOpen) .none kV103 dc103 pm103 an103 cd103 ct103),sl103⟩)
  (c103:PySem.W.codeIn K cd103 "Hall.open_door" = true)
  (k103:PySem.W.keepIn K (.ref f103)=true)
  (n103:PySem.W.isFn K (.ref f103)=true)
  (b104:PySem.W.findIn K (.ref cH) "doors" = some (some (.ref f104)))
  (l104:K.lookup f104=some ⟨oc104,od104,.func (PySem.W.fnOf "doors" "Hall.doors" (defArgs sDoors) (defBody sDoors) (defScope sDoors) .none kV104 dc104 pm104 an104 cd104 ct104),sl104⟩)
  (c104:PySem.W.codeIn K cd104 "Hall.doors" = true)
  (k104:PySem.W.keepIn K (.ref f104)=true)
  (n104:PySem.W.isFn K (.ref f104)=true)
  (x0:PySem.W.nsIn K mainGlobals "HallError" = some (some (.ref e0)))
  (xe0:PySem.W.excIn K e0 bmV "ValueError.__new__" = true)
  (xc0:PySem.W.findIn K (.ref e0) "__class__" = some (some (.builtin "object.__class__")))
  (xg0:PySem.W.findIn K (.ref e0) "__getattribute__" = some (some (.builtin "BaseException.__getattribute__")))
  (xn0:PySem.W.findIn K (.ref e0) "__getattr__" = some none)
  (xt0:PySem.W.typeIn K (.ref e0)=some (.type "type"))
  (xm0:PySem.W.mroIn K e0 (.ref e0)=some true)
  (x1:PySem.W.nsIn K mainGlobals "NoRoom" = some (some (.ref e1)))
  (xe1:PySem.W.excIn K e1 bmV "ValueError.__new__" = true)
  (xc1:PySem.W.findIn K (.ref e1) "__class__" = some (some (.builtin "object.__class__")))
  (xg1:PySem.W.findIn K (.ref e1) "__getattribute__" = some (some (.builtin "BaseException.__getattribute__")))
  (xn1:PySem.W.findIn K (.ref e1) "__getattr__" = some none)
  (xt1:PySem.W.typeIn K (.ref e1)=some (.type "type"))
  (xm1:PySem.W.mroIn K e1 (.ref e1)=some true)
  (x2:PySem.W.nsIn K mainGlobals "DoorThere" = some (some (.ref e2)))
  (xe2:PySem.W.excIn K e2 bmV "ValueError.__new__" = true)
  (xc2:PySem.W.findIn K (.ref e2) "__class__" = some (some (.builtin "object.__class__")))
  (xg2:PySem.W.findIn K (.ref e2) "__getattribute__" = some (some (.builtin "BaseException.__getattribute__")))
  (xn2:PySem.W.findIn K (.ref e2) "__getattr__" = some none)
  (xt2:PySem.W.typeIn K (.ref e2)=some (.type "type"))
  (xm2:PySem.W.mroIn K e2 (.ref e2)=some true)
  (x3:PySem.W.nsIn K mainGlobals "TooMany" = some (some (.ref e3)))
  (xe3:PySem.W.excIn K e3 bmV "ValueError.__new__" = true)
  (xc3:PySem.W.findIn K (.ref e3) "__class__" = some (some (.builtin "object.__class__")))
  (xg3:PySem.W.findIn K (.ref e3) "__getattribute__" = some (some (.builtin "BaseException.__getattribute__")))
  (xn3:PySem.W.findIn K (.ref e3) "__getattr__" = some none)
  (xt3:PySem.W.typeIn K (.ref e3)=some (.type "type"))
  (xm3:PySem.W.mroIn K e3 (.ref e3)=some true)
  (x4:PySem.W.nsIn K mainGlobals "BadNote" = some (some (.ref e4)))
  (xe4:PySem.W.excIn K e4 bmV "ValueError.__new__" = true)
  (xc4:PySem.W.findIn K (.ref e4) "__class__" = some (some (.builtin "object.__class__")))
  (xg4:PySem.W.findIn K (.ref e4) "__getattribute__" = some (some (.builtin "BaseException.__getattribute__")))
  (xn4:PySem.W.findIn K (.ref e4) "__getattr__" = some none)
  (xt4:PySem.W.typeIn K (.ref e4)=some (.type "type"))
  (xm4:PySem.W.mroIn K e4 (.ref e4)=some true)
  (u10:PySem.W.mroIn K e1 (.ref e0)=some true)
  (u20:PySem.W.mroIn K e2 (.ref e0)=some true)
  (u30:PySem.W.mroIn K e3 (.ref e0)=some true)
  (u40:PySem.W.mroIn K e4 (.ref e0)=some true)
  (s44:PySem.W.subIn K (.ref e4) (.ref e4)=some true)
  (s41:PySem.W.subIn K (.ref e4) (.ref e1)=some false)
  (ne41:¬ e4=e1)
  (s42:PySem.W.subIn K (.ref e4) (.ref e2)=some false)
  (ne42:¬ e4=e2)
  (s43:PySem.W.subIn K (.ref e4) (.ref e3)=some false)
  (ne43:¬ e4=e3)
  (z0:PySem.W.nsIn K mainGlobals "len" = some none)
  (z1:PySem.W.nsIn K mainGlobals "range" = some none)
  (z2:PySem.W.nsIn K mainGlobals "list" = some none)
  (z3:PySem.W.nsIn K mainGlobals "isinstance" = some none)
  (z4:PySem.W.nsIn K mainGlobals "sorted" = some none)
  (z5:PySem.W.nsIn K mainGlobals "min" = some none)
  (z6:PySem.W.nsIn K mainGlobals "max" = some none)
  (z7:PySem.W.nsIn K mainGlobals "all" = some none)
  (z8:PySem.W.nsIn K mainGlobals "int" = some none)
  (z9:PySem.W.nsIn K mainGlobals "bool" = some none)
  (z10:PySem.W.nsIn K mainGlobals "enumerate" = some none)
  (z11:PySem.W.nsIn K mainGlobals "zip" = some none)
  (zfig:PySem.W.nsIn K mainGlobals "FIGURES" = some (some (.str (Str.ofString "0123456789") tfi)))
  (zmf:PySem.W.nsIn K mainGlobals "MOST_FIGURES" = some (some (.int 3 tmo)))
  (zst:PySem.W.nsIn K mainGlobals "str" = some none)
  (ve:PySem.W.nsIn K mainGlobals "ValueError" = some none)
  (svb:PySem.W.subIn K (.ref e4) (.type "ValueError")=some true)
  (zr:PySem.W.nsIn K mainGlobals "MOST_ROOMS" = some (some (.int 60 tr)))
  (zd:PySem.W.nsIn K mainGlobals "MOST_DOORS" = some (some (.int 400 td)))
  : ∃ fd:FuncData,(∀ (s:Shared) (v:Value),BindsTo s fd ⟨[v],[]⟩ [("script",v)])/\∀ base:Heap,K.In base->base.Ns mainGlobals mg->FnOk l.prog w K mg base CX0 6 fa fd ["script"] (spLaw K):=by
 have e:=hfa.symm.trans (PySem.W.mg_of X G a16)
 cases e
 have T:Txt mg:=⟨PySem.W.mg_none_of X G z0,PySem.W.mg_none_of X G z1,PySem.W.mg_none_of X G z2,PySem.W.mg_none_of X G z3,PySem.W.mg_none_of X G z4,PySem.W.mg_none_of X G z5,PySem.W.mg_none_of X G z6,PySem.W.mg_none_of X G z7,PySem.W.mg_none_of X G z8,PySem.W.mg_none_of X G z9,PySem.W.mg_none_of X G z10,PySem.W.mg_none_of X G z11,⟨_,PySem.W.mg_of X G zr⟩,⟨_,PySem.W.mg_of X G zd⟩⟩
 have HC:HallC K mg cH:=⟨PySem.W.mg_of X G gH,⟨h1,h2,h3,h4⟩,h5,h6⟩
 have F0:=fun_mk (st:=sCell) l0 c0 k0
 have DA:DefAt K mg "_law_cell_at" sCell ["script", "k"] f0 _:=⟨F0,F0.binds (ps:=["script", "k"]) fun _ _ _ _ _ _ us hl=>match us,hl with | [_,_],_=>rfl,PySem.W.mg_of X G a0⟩
 have F1:=fun_mk (st:=sNames) l1 c1 k1
 have DNa:DefAt K mg "_law_names" sNames ["cell"] f1 _:=⟨F1,F1.binds (ps:=["cell"]) fun _ _ _ _ _ _ us hl=>match us,hl with | [_],_=>rfl,PySem.W.mg_of X G a1⟩
 have F2:=fun_mk (st:=sDoorsBy) l2 c2 k2
 have DDb:DefAt K mg "_law_doors_by" sDoorsBy ["script", "start", "count", "size", "names"] f2 _:=⟨F2,F2.binds (ps:=["script", "start", "count", "size", "names"]) fun _ _ _ _ _ _ us hl=>match us,hl with | [_,_,_,_,_],_=>rfl,PySem.W.mg_of X G a2⟩
 have F3:=fun_mk (st:=sColoursBy) l3 c3 k3
 have DCb:DefAt K mg "_law_colours_by" sColoursBy ["cell", "size"] f3 _:=⟨F3,F3.binds (ps:=["cell", "size"]) fun _ _ _ _ _ _ us hl=>match us,hl with | [_,_],_=>rfl,PySem.W.mg_of X G a3⟩
 have F4:=fun_mk (st:=sCover) l4 c4 k4
 have DCv:DefAt K mg "_law_cover" sCover ["doors", "many", "size", "cell"] f4 _:=⟨F4,F4.binds (ps:=["doors", "many", "size", "cell"]) fun _ _ _ _ _ _ us hl=>match us,hl with | [_,_,_,_],_=>rfl,PySem.W.mg_of X G a4⟩
 have F5:=fun_mk (st:=sDrawn) l5 c5 k5
 have DDr:DefAt K mg "_law_drawn" sDrawn ["script"] f5 _:=⟨F5,F5.binds (ps:=["script"]) fun _ _ _ _ _ _ us hl=>match us,hl with | [_],_=>rfl,PySem.W.mg_of X G a5⟩
 have F6:=fun_mk (st:=sRead) l6 c6 k6
 have DRe:DefAt K mg "read" sRead ["text"] f6 _:=⟨F6,F6.binds (ps:=["text"]) fun _ _ _ _ _ _ us hl=>match us,hl with | [_],_=>rfl,PySem.W.mg_of X G a6⟩
 have F7:=fun_mk (st:=sReadRooms) l7 c7 k7
 have DRr:DefAt K mg "read_rooms" sReadRooms ["line"] f7 _:=⟨F7,F7.binds (ps:=["line"]) fun _ _ _ _ _ _ us hl=>match us,hl with | [_],_=>rfl,PySem.W.mg_of X G a7⟩
 have F8:=fun_mk (st:=sReadDoor) l8 c8 k8
 have DRd:DefAt K mg "read_door" sReadDoor ["hall", "line"] f8 _:=⟨F8,F8.binds (ps:=["hall", "line"]) fun _ _ _ _ _ _ us hl=>match us,hl with | [_,_],_=>rfl,PySem.W.mg_of X G a8⟩
 have F9:=fun_mk (st:=sNumsB) l9 c9 k9
 have DNb:DefAt K mg "numbers_behind" sNumsB ["word", "line"] f9 _:=⟨F9,F9.binds (ps:=["word", "line"]) fun _ _ _ _ _ _ us hl=>match us,hl with | [_,_],_=>rfl,PySem.W.mg_of X G a9⟩
 have F10:=fun_mk (st:=sNumber) l10 c10 k10
 have DNo:DefAt K mg "number_of" sNumber ["figures"] f10 _:=⟨F10,F10.binds (ps:=["figures"]) fun _ _ _ _ _ _ us hl=>match us,hl with | [_],_=>rfl,PySem.W.mg_of X G a10⟩
 have F11:=fun_mk (st:=sBadLine) l11 c11 k11
 have DBl:DefAt K mg "_law_bad_line" sBadLine ["cell"] f11 _:=⟨F11,F11.binds (ps:=["cell"]) fun _ _ _ _ _ _ us hl=>match us,hl with | [_],_=>rfl,PySem.W.mg_of X G a11⟩
 have F12:=fun_mk (st:=sBadFirst) l12 c12 k12
 have DBf:DefAt K mg "_law_bad_first" sBadFirst ["cell"] f12 _:=⟨F12,F12.binds (ps:=["cell"]) fun _ _ _ _ _ _ us hl=>match us,hl with | [_],_=>rfl,PySem.W.mg_of X G a12⟩
 have F13:=fun_mk (st:=sLines) l13 c13 k13
 have DLi:DefAt K mg "_law_lines" sLines ["doors"] f13 _:=⟨F13,F13.binds (ps:=["doors"]) fun _ _ _ _ _ _ us hl=>match us,hl with | [_],_=>rfl,PySem.W.mg_of X G a13⟩
 have F14:=fun_mk (st:=sSpoiled) l14 c14 k14
 have DSp:DefAt K mg "_law_spoiled" sSpoiled ["head", "lines", "size", "cell"] f14 _:=⟨F14,F14.binds (ps:=["head", "lines", "size", "cell"]) fun _ _ _ _ _ _ us hl=>match us,hl with | [_,_,_,_],_=>rfl,PySem.W.mg_of X G a14⟩
 have F15:=fun_mk (st:=sRefused) l15 c15 k15
 have DRf:DefAt K mg "_law_refused" sRefused ["text"] f15 _:=⟨F15,F15.binds (ps:=["text"]) fun _ _ _ _ _ _ us hl=>match us,hl with | [_],_=>rfl,PySem.W.mg_of X G a15⟩
 have FJ:=fun_mk (st:=sInit) lJ cJ kJ
 have bJ:=FJ.binds (ps:=["self", "colours"]) fun _ _ _ _ _ _ us hl=>match us,hl with | [_,_],_=>rfl
 have M:Mk K cH fJ:=⟨mk,m0,nJ,kH⟩
 have F100:=fun_mk (st:=sSize) l100 c100 k100
 have MZ:MetAt K cH "size" "Hall.size" sSize ["self"] f100 _:=⟨F100,F100.binds (ps:=["self"]) fun _ _ _ _ _ _ us hl=>match us,hl with | [_],_=>rfl,⟨b100,n100,k100⟩⟩
 have F101:=fun_mk (st:=sCheck) l101 c101 k101
 have MK:MetAt K cH "check_room" "Hall.check_room" sCheck ["self", "a"] f101 _:=⟨F101,F101.binds (ps:=["self", "a"]) fun _ _ _ _ _ _ us hl=>match us,hl with | [_,_],_=>rfl,⟨b101,n101,k101⟩⟩
 have F102:=fun_mk (st:=sColour) l102 c102 k102
 have ML:MetAt K cH "colour" "Hall.colour" sColour ["self", "a"] f102 _:=⟨F102,F102.binds (ps:=["self", "a"]) fun _ _ _ _ _ _ us hl=>match us,hl with | [_,_],_=>rfl,⟨b102,n102,k102⟩⟩
 have F103:=fun_mk (st:=sOpen) l103 c103 k103
 have MO:MetAt K cH "open_door" "Hall.open_door" sOpen ["self", "a", "name", "b"] f103 _:=⟨F103,F103.binds (ps:=["self", "a", "name", "b"]) fun _ _ _ _ _ _ us hl=>match us,hl with | [_,_,_,_],_=>rfl,⟨b103,n103,k103⟩⟩
 have F104:=fun_mk (st:=sDoors) l104 c104 k104
 have MD:MetAt K cH "doors" "Hall.doors" sDoors ["self"] f104 _:=⟨F104,F104.binds (ps:=["self"]) fun _ _ _ _ _ _ us hl=>match us,hl with | [_],_=>rfl,⟨b104,n104,k104⟩⟩
 have X0:ExcAt K mg "HallError" e0:=⟨PySem.W.mg_of X G x0,⟨xe0⟩,⟨xc0,xg0,xn0⟩⟩
 have X1:ExcAt K mg "NoRoom" e1:=⟨PySem.W.mg_of X G x1,⟨xe1⟩,⟨xc1,xg1,xn1⟩⟩
 have X2:ExcAt K mg "DoorThere" e2:=⟨PySem.W.mg_of X G x2,⟨xe2⟩,⟨xc2,xg2,xn2⟩⟩
 have X3:ExcAt K mg "TooMany" e3:=⟨PySem.W.mg_of X G x3,⟨xe3⟩,⟨xc3,xg3,xn3⟩⟩
 have X4:ExcAt K mg "BadNote" e4:=⟨PySem.W.mg_of X G x4,⟨xe4⟩,⟨xc4,xg4,xn4⟩⟩
 have TN:TxtN mg:=⟨⟨_,PySem.W.mg_of X G zfig⟩,⟨_,PySem.W.mg_of X G zmf⟩,PySem.W.mg_none_of X G zst⟩
 have XL:ExN K mg e0 e1 e2 e3 e4:=⟨X0,X1,X2,X3,X4,⟨u10⟩,⟨u20⟩,⟨u30⟩,⟨u40⟩,kit_ref xm4 xt4 s44 (fun _=>rfl),kit_ref xm1 xt1 s41 (fun z=>absurd z ne41),kit_ref xm2 xt2 s42 (fun z=>absurd z ne42),kit_ref xm3 xt3 s43 (fun z=>absurd z ne43),kit_ty svb rfl,PySem.W.mg_none_of X G ve⟩
 have FL:=fun_mk (st:=sLaw) l16 c16 k16
 refine⟨PySem.W.fnOf "law" "law" (defArgs sLaw) (defBody sLaw) (defScope sLaw) .none kV16 dc16 pm16 an16 cd16 ct16,fun s v=>.of_eq rfl,fun base _ _=>?_⟩
 have GK:=ok_check (P:=l.prog) (w:=w) (base:=base) T HC X1 MK
 have GZ:=ok_size (P:=l.prog) (w:=w) (base:=base) T HC MZ
 have GL:=ok_colour (P:=l.prog) (w:=w) (base:=base) HC MK GK ML
 have GI:=ok_init (P:=l.prog) (w:=w) (base:=base) T HC X3 FJ
 have GO:=ok_open (P:=l.prog) (w:=w) (base:=base) T HC X2 X3 MK GK MO
 have GD:=ok_doors (P:=l.prog) (w:=w) (base:=base) T HC MD
 have GA:=ok_cell (P:=l.prog) (w:=w) (base:=base) T DA
 have GNa:=ok_names (P:=l.prog) (w:=w) (base:=base) T DNa
 have GDb:=ok_doorsby (P:=l.prog) (w:=w) (base:=base) T DA GA DDb
 have GCb:=ok_coloursby (P:=l.prog) (w:=w) (base:=base) T DCb
 have GCv:=ok_cover (P:=l.prog) (w:=w) (base:=base) T DCv
 have GDr:=ok_drawn (P:=l.prog) (w:=w) (base:=base) T DA GA DNa GNa DDb GDb DCb GCb DCv GCv DDr
 have GNo:=ok_number (P:=l.prog) (w:=w) (base:=base) T TN X4 DNo
 have GNb:=ok_numsb (P:=l.prog) (w:=w) (base:=base) T X4 DNo GNo DNb
 have GRr:=ok_readrooms (P:=l.prog) (w:=w) (base:=base) HC M bJ GI XL DNb GNb DRr
 have GRd:=ok_readdoor (P:=l.prog) (w:=w) (base:=base) T HC MO GO XL DNb GNb DRd
 have GRe:=ok_read (P:=l.prog) (w:=w) (base:=base) T XL DRr GRr DRd GRd DRe
 have GBl:=ok_badline (P:=l.prog) (w:=w) (base:=base) T DBl
 have GBf:=ok_badfirst (P:=l.prog) (w:=w) (base:=base) T DBf
 have GLi:=ok_lines (P:=l.prog) (w:=w) (base:=base) T TN DLi
 have GSp:=ok_spoiled (P:=l.prog) (w:=w) (base:=base) T TN DBf GBf DBl GBl DSp
 have GRf:=ok_refused (P:=l.prog) (w:=w) (base:=base) T XL DRe GRe DRf
 exact ok_law (P:=l.prog) (w:=w) (base:=base) T TN HC DA GA DDr GDr DLi GLi DSp GSp DRf GRf DRe GRe MZ GZ MD GD ML GL FL
theorem walk {l:PySem.W.OpenLaw} {q:Program} {loose:List Str} {XP:(Str->Option Value)->Heap->Prop} {YP:World->Heap->Prop} {d:DefRec} {K:Params->PySem.W.Frag} (hn:l.most=some 63) (hdf:d.params.defaults=[])
  (hY:∀ (w:World) (h:Heap),YP w h->(K w.params).In h)
  (F:∀ (w:World) (mg:Str->Option Value) (fa:Addr) (h:Heap),(K w.params).In h->h.Ns mainGlobals mg->mg d.name=some (.ref fa) ->
   ∃ fd:FuncData,(∀ (s:Shared) (u:Value),BindsTo s fd ⟨[u],[]⟩ [("script",u)])/\∀ base:Heap,(K w.params).In base->base.Ns mainGlobals mg->FnOk l.prog w (K w.params) mg base CX0 6 fa fd ["script"] (spLaw (K w.params))) :
  PySem.W.WalkO q loose XP YP l.row.toRowW d [] (fun f vs=>PySem.call f vs):=
 L2.walk_of (n:=63) (k:=6) (x := "script") (CX:=fun _=>CX0) (sp:=fun w=>spLaw (K w.params)) hn (by decide) hdf ⟨rfl,by decide,by decide⟩ hY F (fun _ _ a ns hl _ hS=>⟨a,ns,rfl,hS,hl,fun _=>rfl⟩) fun _ _ _ _ _ z=>z
end K17
namespace PySem.W.Fast
theorem tw5001988206039864116:True:=trivial
theorem tw11675411396190531517:True:=trivial
theorem tw16960399799780863830:True:=trivial
theorem tw5138199970848611078:True:=trivial
theorem tw9252614087873829376:True:=trivial
theorem tw18067107422630419663:True:=trivial
theorem tw6594275432068211412:True:=trivial
theorem tw11012082078404548784:True:=trivial
theorem tw16920717196423539306:True:=trivial
theorem tw5742188884667495688:True:=trivial
theorem tw12523067133820431702:True:=trivial
theorem tw1345021891875419740:True:=trivial
theorem tw14257363201944795295:True:=trivial
theorem tw15661049044988509253:True:=trivial
theorem tw4507833091862264853:True:=trivial
theorem tw15755152987640797851:True:=trivial
theorem tw32762356107391146:True:=trivial
theorem tw13732808241710055592:True:=trivial
theorem tw11020786634290933100:True:=trivial
theorem tw16960949826391780443:True:=trivial
theorem tw9058013600579843724:True:=trivial
theorem tw13666773477140308131:True:=trivial
theorem tw6485813163527349174:True:=trivial
theorem tw15086311564497732310:True:=trivial
theorem tw2055810436133937406:True:=trivial
theorem tw10729023211750934107:True:=trivial
theorem tw11145626921349885524:True:=trivial
theorem tw937765768559140948:True:=trivial
theorem tw6176068750819597270:True:=trivial
theorem tw12503939803676426049:True:=trivial
theorem tw1757879543158466341:True:=trivial
theorem tw9414661970517547843:True:=trivial
theorem tw3040763742642282790:True:=trivial
theorem tw13153332132147751300:True:=trivial
theorem tw3681317554644514448:True:=trivial
theorem tw9948358074424883115:True:=trivial
theorem tw6519390014830255568:True:=trivial
theorem tw11622527316349945094:True:=trivial
theorem tw13783166648665986343:True:=trivial
theorem tw18106577679788219816:True:=trivial
theorem tw11498791398214818355:True:=trivial
theorem tw922724585537320664:True:=trivial
theorem tw11279141880774686285:True:=trivial
theorem tw10925243063078644363:True:=trivial
theorem tw238733336511550348:True:=trivial
theorem tw5263157032622567265:True:=trivial
theorem tw10969231590357177988:True:=trivial
theorem tw9158946011004290483:True:=trivial
theorem tw12233234752289854738:True:=trivial
theorem tw11903599140414080887:True:=trivial
theorem tw1986654626720394573:True:=trivial
theorem tw2844928403380110981:True:=trivial
theorem tw14768026391807134847:True:=trivial
theorem tw6333779463595091286:True:=trivial
theorem tw10044291697771926070:True:=trivial
theorem tw1008189983655065671:True:=trivial
theorem tw10102796787067899940:True:=trivial
theorem tw7820343535007536328:True:=trivial
theorem tw11564939190660610239:True:=trivial
theorem tw10744345863832529176:True:=trivial
theorem tw882518198040732320:True:=trivial
theorem tw13935036256675859721:True:=trivial
theorem tw17009342969617407644:True:=trivial
theorem tw17309667277934651884:True:=trivial
theorem tw347391555185534229:True:=trivial
theorem tw2494856585730677818:True:=trivial
theorem tw5379613716257415218:True:=trivial
theorem tw11232229588612834113:True:=trivial
theorem tw8070973114480892283:True:=trivial
theorem tw5775997742029580683:True:=trivial
theorem tw5179593424832230209:True:=trivial
theorem tw17386433040448315611:True:=trivial
theorem tw6083507283176152603:True:=trivial
theorem tw11244419372119146448:True:=trivial
theorem tw13049942386945059370:True:=trivial
theorem tw6664854478745395964:True:=trivial
theorem tw2863636333558086911:True:=trivial
theorem tw10408470180717123384:True:=trivial
theorem tw12618266546211077733:True:=trivial
theorem tw10976847726267465353:True:=trivial
theorem tw2212639448337284560:True:=trivial
theorem tw18141948787428991914:True:=trivial
theorem tw8606897283843040269:True:=trivial
theorem tw17340785535686640275:True:=trivial
theorem tw12563432460610329081:True:=trivial
theorem tw9248245389640956277:True:=trivial
theorem tw3038837778529959457:True:=trivial
theorem tw11976869956986621598:True:=trivial
theorem tw6847714928571375666:True:=trivial
theorem tw6359161116198497784:True:=trivial
theorem tw13225752405533956846:True:=trivial
theorem tw9479643529873940380:True:=trivial
theorem tw2925871579658082168:True:=trivial
theorem tw8912802311396080831:True:=trivial
theorem tw9373385237169484745:True:=trivial
theorem tw15570150776110417841:True:=trivial
theorem tw3265650627311007705:True:=trivial
theorem tw9686821808143514702:True:=trivial
theorem tw18242556365897585784:True:=trivial
theorem tw11457689093488332199:True:=trivial
theorem tw10506600806596787395:True:=trivial
theorem tw7611285832076175444:True:=trivial
theorem tw12437679840314241864:True:=trivial
theorem tw14642854054672240116:True:=trivial
theorem tw1857169213228470740:True:=trivial
theorem tw9725819839353832932:True:=trivial
theorem tw13224810036595214105:True:=trivial
theorem tw5554158026267480269:True:=trivial
theorem tw10436008156888470994:True:=trivial
theorem tw370530392730397370:True:=trivial
theorem tw15213453561362394642:True:=trivial
theorem tw4588671066228729146:True:=trivial
theorem tw4438033086799413931:True:=trivial
theorem tw9337211560619450825:True:=trivial
theorem tw16059006594273848032:True:=trivial
theorem tw3148627977828666419:True:=trivial
theorem tw3255730181827591043:True:=trivial
theorem tw17763462737091899778:True:=trivial
theorem tw13017746380653889227:True:=trivial
theorem tw9007760437622422118:True:=trivial
theorem tw15923173284634343455:True:=trivial
theorem tw18328681909082243309:True:=trivial
theorem tw12532917222622768846:True:=trivial
theorem tw3070245845096760754:True:=trivial
theorem tw16297935209515085676:True:=trivial
theorem tw15960749513042828718:True:=trivial
theorem tw12253928100933688360:True:=trivial
theorem tw18139447097244442998:True:=trivial
theorem tw9936716467361094707:True:=trivial
theorem tw11982164671190315445:True:=trivial
theorem tw13963188090826908699:True:=trivial
theorem tw3428970840909755821:True:=trivial
theorem tw15515942371153015192:True:=trivial
theorem tw8743751051122861414:True:=trivial
theorem tw7308616565088191063:True:=trivial
theorem tw11715644340904709782:True:=trivial
theorem tw13253540270965280836:True:=trivial
theorem tw9395769768582529262:True:=trivial
theorem tw1938161442517005175:True:=trivial
theorem tw3602157365551902314:True:=trivial
theorem tw12942183783192532336:True:=trivial
theorem tw18124134120144095873:True:=trivial
theorem tw4989111735343028869:True:=trivial
theorem tw3262732218137016268:True:=trivial
theorem tw3389245365650802719:True:=trivial
theorem tw14944253091668440331:True:=trivial
theorem tw13196768525508752446:True:=trivial
theorem tw7213866333955063003:True:=trivial
theorem tw16967182906609973190:True:=trivial
theorem tw6546662419139127978:True:=trivial
theorem tw12262340773209512182:True:=trivial
theorem tw10070513588965319448:True:=trivial
theorem tw18257121581566706916:True:=trivial
theorem tw11874005773374227015:True:=trivial
theorem tw10791077649091250340:True:=trivial
theorem tw2830787161600641580:True:=trivial
theorem tw12995649455675412437:True:=trivial
theorem tw5560429967410819765:True:=trivial
theorem tw6947146533211791970:True:=trivial
theorem tw13383507573151107867:True:=trivial
theorem tw8199090202545127327:True:=trivial
theorem tw8171749191610589101:True:=trivial
theorem tw11626309410634896431:True:=trivial
theorem tw970889974375465668:True:=trivial
theorem tw702241261177669764:True:=trivial
theorem tw14136263001527985733:True:=trivial
theorem tw847738267600680054:True:=trivial
theorem tw596945648613910005:True:=trivial
theorem tw7314656604664715624:True:=trivial
theorem tw8955668278517774023:True:=trivial
theorem tw7581305389272409104:True:=trivial
theorem tw6010901610601647533:True:=trivial
theorem tw825357215113289155:True:=trivial
theorem tw6982797206160083844:True:=trivial
theorem tw9124439891708186792:True:=trivial
theorem tw13489280642451995173:True:=trivial
theorem tw2954839665300362395:True:=trivial
theorem tw15993333910173928968:True:=trivial
theorem tw7578243221030647381:True:=trivial
theorem tw12153211899206531337:True:=trivial
theorem tw7544243357927168635:True:=trivial
theorem tw6829884454797133314:True:=trivial
theorem tw1864609560369786058:True:=trivial
theorem tw5488937443340186940:True:=trivial
theorem tw12516944037287051822:True:=trivial
theorem tw4928229401229447125:True:=trivial
theorem tw6731078638667754383:True:=trivial
theorem tw15263858628103860807:True:=trivial
theorem tw977952910709929358:True:=trivial
theorem tw14426527547244021856:True:=trivial
theorem tw12271825014045895344:True:=trivial
theorem tw10736982825144845366:True:=trivial
theorem tw6797425326737372908:True:=trivial
theorem tw15986833749315242056:True:=trivial
theorem tw3092294586805291762:True:=trivial
theorem tw12486747183308570483:True:=trivial
theorem tw9967636798013623973:True:=trivial
theorem tw5252713427831340284:True:=trivial
theorem tw3719794653707154300:True:=trivial
theorem tw16038595653197815890:True:=trivial
theorem tw9136303451948314319:True:=trivial
theorem tw12285342123952643363:True:=trivial
theorem tw14939843766194470507:True:=trivial
theorem tw3391264316790554977:True:=trivial
theorem tw10097630340982569723:True:=trivial
theorem tw12991155774614263040:True:=trivial
theorem tw11623475755954781656:True:=trivial
theorem tw7937035614237475853:True:=trivial
theorem tw12628724781421723055:True:=trivial
theorem tw2304023846323025575:True:=trivial
theorem tw11468851104630149453:True:=trivial
theorem tw16952338970460745834:True:=trivial
theorem tw505545038230533573:True:=trivial
theorem tw16911187857432309550:True:=trivial
theorem tw3248229623193518001:True:=trivial
theorem tw10359434087430291047:True:=trivial
theorem tw6849507252287106395:True:=trivial
theorem tw3831846966349252641:True:=trivial
theorem tw17959232368589009789:True:=trivial
theorem tw2555207214086433754:True:=trivial
theorem tw6623642289540533172:True:=trivial
theorem tw1350809198621208109:True:=trivial
theorem tw17202342051676857797:True:=trivial
theorem tw4511869976958202578:True:=trivial
theorem tw11907966061939978798:True:=trivial
theorem tw11327562726421128551:True:=trivial
theorem tw8436040433896684768:True:=trivial
theorem tw14011776341035405678:True:=trivial
theorem tw9980457022095048119:True:=trivial
theorem tw12307917274218982120:True:=trivial
theorem tw6446798699231931615:True:=trivial
theorem tw866253415638945407:True:=trivial
theorem tw2308185463145464388:True:=trivial
theorem tw14289551587058015912:True:=trivial
theorem tw70722196198830937:True:=trivial
theorem tw14953353244477823533:True:=trivial
theorem tw3610232219740894430:True:=trivial
theorem tw12894288562703173555:True:=trivial
theorem tw543322955241327251:True:=trivial
theorem tw1949271937419156475:True:=trivial
theorem tw12810113812717667329:True:=trivial
theorem tw1513081537048625076:True:=trivial
theorem tw1856144166869089394:True:=trivial
theorem tw16409218136006854786:True:=trivial
theorem tw3613557193804750001:True:=trivial
theorem tw8269451222559037325:True:=trivial
theorem tw1028145375742575453:True:=trivial
theorem tw18047679449771179852:True:=trivial
theorem tw13786455750552110404:True:=trivial
theorem tw4669371758566749066:True:=trivial
theorem tw10252753963228508489:True:=trivial
theorem tw17336469641096407315:True:=trivial
theorem tw8634262147609534220:True:=trivial
theorem tw6789905421282898877:True:=trivial
theorem tw9127273324750464848:True:=trivial
theorem tw10874051000823778864:True:=trivial
theorem tw3943757544126178472:True:=trivial
theorem tw6382663151257479983:True:=trivial
theorem tw13346347979988622299:True:=trivial
theorem tw10765788821873460337:True:=trivial
theorem tw11556025628646935497:True:=trivial
theorem tw9325928538431803866:True:=trivial
end PySem.W.Fast
open PySem PySem.W PyProof.Rows
theorem PySem.Challenge.cw_twinrooms_k17_notes_refused_holds : PySem.Challenge.rw_twinrooms_k17_notes_refused.Holds := by
 w_on; o_law; k_head; (case hw=>w_witness2)
 k_fill
 refine K17.walk (l:=PySem.Challenge.rw_twinrooms_k17_notes_refused) rfl rfl (fun w h Y=>PySem.W.kIn_of Y) ?F
 case F=>
  intro w mg fa h KX G hmg
  refine' K17.all_mk KX G hmg ?gH ?a0 ?l0 ?c0 ?k0 ?a1 ?l1 ?c1 ?k1 ?a2 ?l2 ?c2 ?k2 ?a3 ?l3 ?c3 ?k3 ?a4 ?l4 ?c4 ?k4 ?a5 ?l5 ?c5 ?k5 ?a6 ?l6 ?c6 ?k6 ?a7 ?l7 ?c7 ?k7 ?a8 ?l8 ?c8 ?k8 ?a9 ?l9 ?c9 ?k9 ?a10 ?l10 ?c10 ?k10 ?a11 ?l11 ?c11 ?k11 ?a12 ?l12 ?c12 ?k12 ?a13 ?l13 ?c13 ?k13 ?a14 ?l14 ?c14 ?k14 ?a15 ?l15 ?c15 ?k15 ?a16 ?l16 ?c16 ?k16 ?m0 ?lJ ?cJ ?kJ ?nJ ?mk ?kH ?h1 ?h2 ?h3 ?h4 ?h5 ?h6 ?b100 ?l100 ?c100 ?k100 ?n100 ?b101 ?l101 ?c101 ?k101 ?n101 ?b102 ?l102 ?c102 ?k102 ?n102 ?b103 ?l103 ?c103 ?k103 ?n103 ?b104 ?l104 ?c104 ?k104 ?n104 ?x0 ?xe0 ?xc0 ?xg0 ?xn0 ?xt0 ?xm0 ?x1 ?xe1 ?xc1 ?xg1 ?xn1 ?xt1 ?xm1 ?x2 ?xe2 ?xc2 ?xg2 ?xn2 ?xt2 ?xm2 ?x3 ?xe3 ?xc3 ?xg3 ?xn3 ?xt3 ?xm3 ?x4 ?xe4 ?xc4 ?xg4 ?xn4 ?xt4 ?xm4 ?u10 ?u20 ?u30 ?u40 ?s44 ?s41 ?ne41 ?s42 ?ne42 ?s43 ?ne43 ?z0 ?z1 ?z2 ?z3 ?z4 ?z5 ?z6 ?z7 ?z8 ?z9 ?z10 ?z11 ?zfig ?zmf ?zst ?ve ?svb ?zr ?zd
  (case gH=>k_is)
  (case a0=>k_is)
  (case l0=>k_is)
  (case c0=>k_is)
  (case k0=>k_is)
  (case a1=>k_is)
  (case l1=>k_is)
  (case c1=>k_is)
  (case k1=>k_is)
  (case a2=>k_is)
  (case l2=>k_is)
  (case c2=>k_is)
  (case k2=>k_is)
  (case a3=>k_is)
  (case l3=>k_is)
  (case c3=>k_is)
  (case k3=>k_is)
  (case a4=>k_is)
  (case l4=>k_is)
  (case c4=>k_is)
  (case k4=>k_is)
  (case a5=>k_is)
  (case l5=>k_is)
  (case c5=>k_is)
  (case k5=>k_is)
  (case a6=>k_is)
  (case l6=>k_is)
  (case c6=>k_is)
  (case k6=>k_is)
  (case a7=>k_is)
  (case l7=>k_is)
  (case c7=>k_is)
  (case k7=>k_is)
  (case a8=>k_is)
  (case l8=>k_is)
  (case c8=>k_is)
  (case k8=>k_is)
  (case a9=>k_is)
  (case l9=>k_is)
  (case c9=>k_is)
  (case k9=>k_is)
  (case a10=>k_is)
  (case l10=>k_is)
  (case c10=>k_is)
  (case k10=>k_is)
  (case a11=>k_is)
  (case l11=>k_is)
  (case c11=>k_is)
  (case k11=>k_is)
  (case a12=>k_is)
  (case l12=>k_is)
  (case c12=>k_is)
  (case k12=>k_is)
  (case a13=>k_is)
  (case l13=>k_is)
  (case c13=>k_is)
  (case k13=>k_is)
  (case a14=>k_is)
  (case l14=>k_is)
  (case c14=>k_is)
  (case k14=>k_is)
  (case a15=>k_is)
  (case l15=>k_is)
  (case c15=>k_is)
  (case k15=>k_is)
  (case a16=>k_is)
  (case l16=>k_is)
  (case c16=>k_is)
  (case k16=>k_is)
  (case m0=>k_is)
  (case lJ=>k_is)
  (case cJ=>k_is)
  (case kJ=>k_is)
  (case nJ=>k_is)
  (case mk=>k_is)
  (case kH=>k_is)
  (case h1=>k_is)
  (case h2=>k_is)
  (case h3=>k_is)
  (case h4=>k_is)
  (case h5=>k_is)
  (case h6=>k_is)
  (case b100=>k_is)
  (case l100=>k_is)
  (case c100=>k_is)
  (case k100=>k_is)
  (case n100=>k_is)
  (case b101=>k_is)
  (case l101=>k_is)
  (case c101=>k_is)
  (case k101=>k_is)
  (case n101=>k_is)
  (case b102=>k_is)
  (case l102=>k_is)
  (case c102=>k_is)
  (case k102=>k_is)
  (case n102=>k_is)
  (case b103=>k_is)
  (case l103=>k_is)
  (case c103=>k_is)
  (case k103=>k_is)
  (case n103=>k_is)
  (case b104=>k_is)
  (case l104=>k_is)
  (case c104=>k_is)
  (case k104=>k_is)
  (case n104=>k_is)
  (case x0=>k_is)
  (case xe0=>k_exc)
  (case xc0=>k_is)
  (case xg0=>k_is)
  (case xn0=>k_is)
  (case xt0=>k_is)
  (case xm0=>k_is)
  (case x1=>k_is)
  (case xe1=>k_exc)
  (case xc1=>k_is)
  (case xg1=>k_is)
  (case xn1=>k_is)
  (case xt1=>k_is)
  (case xm1=>k_is)
  (case x2=>k_is)
  (case xe2=>k_exc)
  (case xc2=>k_is)
  (case xg2=>k_is)
  (case xn2=>k_is)
  (case xt2=>k_is)
  (case xm2=>k_is)
  (case x3=>k_is)
  (case xe3=>k_exc)
  (case xc3=>k_is)
  (case xg3=>k_is)
  (case xn3=>k_is)
  (case xt3=>k_is)
  (case xm3=>k_is)
  (case x4=>k_is)
  (case xe4=>k_exc)
  (case xc4=>k_is)
  (case xg4=>k_is)
  (case xn4=>k_is)
  (case xt4=>k_is)
  (case xm4=>k_is)
  (case u10=>k_is)
  (case u20=>k_is)
  (case u30=>k_is)
  (case u40=>k_is)
  (case s44=>k_is)
  (case s41=>k_is)
  (case ne41=>decide)
  (case s42=>k_is)
  (case ne42=>decide)
  (case s43=>k_is)
  (case ne43=>decide)
  (case z0=>k_is)
  (case z1=>k_is)
  (case z2=>k_is)
  (case z3=>k_is)
  (case z4=>k_is)
  (case z5=>k_is)
  (case z6=>k_is)
  (case z7=>k_is)
  (case z8=>k_is)
  (case z9=>k_is)
  (case z10=>k_is)
  (case z11=>k_is)
  (case zfig=>k_is)
  (case zmf=>k_is)
  (case zst=>k_is)
  (case ve=>k_is)
  (case svb=>k_is)
  (case zr=>k_is)
  (case zd=>k_is)
