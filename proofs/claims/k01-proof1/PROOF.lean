import PyProof.Rows.All
import Wide.All
import OpenK.AllK
import Wide.FinOn
import Lean
import PyProof.EqAt
import PyProof.EqKinds
import PyProof.TupleCall
import PyProof.Rows.SortShellK
import KE.KSortTup
import KE.KDictList
import OpenK.KOwn
import PyProof.Rows.FStr
import PyProof.FString
import PyProof.ExcBaseAll.ValueError
import PyProof.RulesAs
import PyProof.RulesDel
import PyProof.ExcArgsOwn
import PyProof.IsiBase
import PyProof.ExcAttrAll.ValueError
import PyProof.DictFindH
import PyProof.MeetsDictList
import PyProof.Rows.Range3
import KE.KDictLaws
import PyProof.ZipIter
import PySem.SetTable
import PyProof.Rows.SetFrom
import PyProof.AutoSeq1
import PySem.Challenge.RW_twinrooms_k01_doors
set_option Elab.async false
set_option linter.all false
set_option maxRecDepth 100000
set_option maxHeartbeats 8000000
namespace L2
open PySem PySem.Spec PyProof.Rows
abbrev Key:=Sum Int Str
def keyIs:Key->Value->Bool
 | .inl k,v=>Value.isInt k v
 | .inr x,v=>Value.isStrOf x v
def keyH (w:World):Key->Int
 | .inl k=>hashInt k
 | .inr x=>hashStr w x
theorem keyIs_shape:∀ {k:Key} {v:Value},keyIs k v=true->(∃ i t,k=Sum.inl i/\v=Value.int i t)\/(∃ x t,k=Sum.inr x/\v=Value.str x t)
 | .inl i,v,h=>by
  obtain⟨t,e⟩:=Value.isInt_shape (k:=i) (v:=v) h
  exact .inl ⟨i,t,rfl,e⟩
 | .inr x,v,h=>by
  obtain⟨t,e⟩:=Value.isStrOf_shape (x:=x) (v:=v) h
  exact .inr ⟨x,t,rfl,e⟩
theorem keyIs_int (i:Int) (t:Tok):keyIs (.inl i) (.int i t)=true:=by simp[keyIs,Value.isInt]
theorem keyIs_str (x:Str) (t:Tok):keyIs (.inr x) (.str x t)=true:=by simp[keyIs,Value.isStrOf]
theorem key_ll (a b:Int):decide ((Sum.inl a:Key)=Sum.inl b)=(a == b):=by
 by_cases e:a=b
 ·subst e; simp
 ·have h:¬ (Sum.inl a:Key)=Sum.inl b:=fun q=>e (Sum.inl.inj q)
  rw[decide_eq_false h]
  exact (beq_eq_false_iff_ne.mpr e).symm
theorem key_rr (a b:Str):decide ((Sum.inr a:Key)=Sum.inr b)=decide (a=b):=by
 by_cases e:a=b
 ·subst e; simp
 ·have h:¬ (Sum.inr a:Key)=Sum.inr b:=fun q=>e (Sum.inr.inj q)
  rw[decide_eq_false h,decide_eq_false e]
theorem key_lr (a:Int) (b:Str):decide ((Sum.inl a:Key)=Sum.inr b)=false:=decide_eq_false (fun q=>nomatch q)
theorem key_rl (a:Str) (b:Int):decide ((Sum.inr a:Key)=Sum.inl b)=false:=decide_eq_false (fun q=>nomatch q)
def mixKind (prog:Program) (w:World):PySem.KeyKind prog w Key where
 is:=keyIs
 hash:=keyH w
 inj:=fun v a b ha hb=>by
  rcases keyIs_shape ha with ⟨i,t,rfl,rfl⟩ | ⟨x,t,rfl,rfl⟩
  ·rcases keyIs_shape hb with ⟨j,u,rfl,e⟩ | ⟨y,u,rfl,e⟩
   ·injection e with e1 _; rw[e1]
   ·exact nomatch e
  ·rcases keyIs_shape hb with ⟨j,u,rfl,e⟩ | ⟨y,u,rfl,e⟩
   ·exact nomatch e
   ·injection e with e1 _; rw[e1]
 byValue:=fun k v h=>by
  rcases keyIs_shape h with ⟨i,t,rfl,rfl⟩ | ⟨x,t,rfl,rfl⟩ <;> rfl
 pyHash:=fun hv h=>by
  rcases keyIs_shape hv with ⟨i,t,rfl,rfl⟩ | ⟨x,t,rfl,rfl⟩
  ·exact wpAny_pyHash_int h
  ·exact wpAny_pyHash_str h
 eqBool:=fun hu hv h=>by
  rcases keyIs_shape hu with ⟨i,t,rfl,rfl⟩ | ⟨x,t,rfl,rfl⟩
  ·rcases keyIs_shape hv with ⟨j,u,rfl,rfl⟩ | ⟨y,u,rfl,rfl⟩
   ·rw[key_ll] at h; exact wpAny_eqBool_int h
   ·rw[key_lr] at h; exact SeqAt.EqAt.int_str i t y u _ _ _ _ h
  ·rcases keyIs_shape hv with ⟨j,u,rfl,rfl⟩ | ⟨y,u,rfl,rfl⟩
   ·rw[key_rl] at h; exact SeqAt.EqAt.str_int x t j u _ _ _ _ h
   ·rw[key_rr] at h; exact wpAny_eqBool_str h
 «strs»:=fun k x t v h=>by
  rcases keyIs_shape h with ⟨i,u,rfl,e⟩ | ⟨y,u,rfl,e⟩
  ·exact nomatch e
  ·injection e with e1 _
   subst e1
   cases v <;> rfl
theorem mixKind_int (prog:Program) (w:World) (i:Int) (t:Tok):(mixKind prog w).is (.inl i) (.int i t)=true:=keyIs_int i t
theorem mixKind_str (prog:Program) (w:World) (x:Str) (t:Tok):(mixKind prog w).is (.inr x) (.str x t)=true:=keyIs_str x t
end L2
namespace L2
open PySem PySem.Spec PyProof.Rows
inductive V where
 | non | bl (b:Bool) | int (i:Int) | str (x:Str) | byt (b:Array UInt8) | flt (b:UInt64) | ref (a:Addr) | ty (n:String)
 deriving DecidableEq
def RelV:V->Value->Prop
 | .non,u=>u=Value.none
 | .bl b,u=>u=Value.bool b
 | .int i,u=>∃ t,u=Value.int i t
 | .str x,u=>∃ t,u=Value.str x t
 | .byt b,u=>∃ t,u=Value.bytes b t
 | .flt b,u=>∃ t,u=Value.float b t
 | .ref a,u=>u=Value.ref a
 | .ty n,u=>u=Value.type n
abbrev Vals:List V->List Value->Prop:=Paired RelV
theorem Vals.length {xs:List V} {us:List Value} (r:Vals xs us):xs.length=us.length:=Paired.length r
theorem Vals.get:∀ {xs:List V} {us:List Value} {i:Nat} {x:V},Vals xs us->xs[i]?=some x->∃ u,us[i]?=some u/\RelV x u
 | _,_,_,_,.nil,e=>by simp at e
 | _,_,0,_,.cons r _,e=>by simp at e; subst e; exact⟨_,rfl,r⟩
 | _,_,i+1,x,.cons _ t,e=>by
  obtain⟨u,h1,h2⟩:=Vals.get (i:=i) (x:=x) t (by simpa using e)
  exact⟨u,by simpa using h1,h2⟩
theorem Vals.set {x:V} {u:Value} (r:RelV x u):∀ {xs:List V} {us:List Value} (i:Nat),Vals xs us->Vals (xs.set i x) (us.set i u)
 | _,_,_,.nil=>.nil
 | _,_,0,.cons _ t=>.cons r t
 | _,_,i+1,.cons q t=>.cons q (Vals.set r i t)
theorem Vals.append:∀ {xs ys:List V} {us ws:List Value},Vals xs us->Vals ys ws->Vals (xs++ys) (us++ws)
 | _,_,_,_,.nil,s=>s
 | _,_,_,_,.cons r t,s=>.cons r (Vals.append t s)
theorem Vals.take:∀ {xs:List V} {us:List Value} (n:Nat),Vals xs us->Vals (xs.take n) (us.take n)
 | _,_,0,_=>.nil
 | _,_,_+1,.nil=>.nil
 | _,_,n+1,.cons r t=>.cons r (Vals.take n t)
theorem Vals.drop:∀ {xs:List V} {us:List Value} (n:Nat),Vals xs us->Vals (xs.drop n) (us.drop n)
 | _,_,0,r=>r
 | _,_,_+1,.nil=>.nil
 | _,_,n+1,.cons _ t=>Vals.drop n t
def RelO:Option V->Option Value->Prop
 | some v,some u=>RelV v u
 | none,none=>True
 | _,_=>False
def KV {κ:Type}:List (κ×V)->List (κ×Value)->Prop:=Paired fun (p:κ×V) (q:κ×Value)=>p.1=q.1/\RelV p.2 q.2
def kV:Key->V
 | .inl i=>.int i
 | .inr x=>.str x
inductive HO where
 /-- a list -/
 | lst (xs:List V)
 /-- a tuple (never changes) -/
 | tup (xs:List V)
 /-- a dict whose keys are ints and texts; one whose keys are tuples of ints and texts (the empty one is both) -/
 | dK (kvs:List (Key×V)) | dT (kvs:List (List Key×V))
 /-- a set of ints: its members,its size -/
 | set (S:Int->Bool) (n:Nat)
 /-- an instance of the class at C,its dict at dx,its attributes -/
 | ins (C dx:Addr) (fs:List (Str×V))
 /-- the dict of the instance at x -/
 | own (x:Addr)
 /-- the dict of an exception -/
 | xd (fs:List (Str×V))
 /-- a bound method,f of x -/
 | met (f x:Addr)
 /-- a range object lo,lo+1,.. below hi -/
 | rng (lo hi:Int)
 /-- a thing that is known to the object (the script; a dict while a loop walks it): read,never written while it is so -/
 | frz (o:Obj) (u:HO)
 /-- a code object's table -/
 | tbl (ps:Array Value)
 /-- any other thing,by what is true of its one object (a def of one's own: SetO a S n:=HO.ext fun h=>..) -/
 | ext (φ:Heap->Prop)
abbrev Hp:=Addr->Option HO
def upd (H:Hp) (a:Addr) (o:HO):Hp:=fun b=>if b=a then some o else H b
theorem upd_same {H:Hp} {a:Addr} {o:HO}:upd H a o a=some o:=by unfold upd; rw[if_pos rfl]
theorem upd_ne {H:Hp} {a b:Addr} {o:HO} (h:b≠a):upd H a o b=H b:=by unfold upd; rw[if_neg h]
theorem ne_of {H:Hp} {a b:Addr} {o u:HO} (h:H a=some o) (h':H b=some u) (d:o≠u):a≠b:=by
 intro e; subst e; rw[h] at h'; exact d (Option.some.inj h')
theorem ne_of_none {H:Hp} {a b:Addr} {o:HO} (h:H a=some o) (h':H b=none):a≠b:=by
 intro e; subst e; rw[h] at h'; cases h'
section
variable (P:Program) (w:World)
def ObjOk (H:Hp) (h:Heap) (a:Addr):HO->Prop
 | .lst xs=>xs.length<=sizeLine/\∃ (its:List Value) (n:Nat),Vals xs its/\h.get? a=some { cls:=.type "list",data:=.seq its.toArray n }
 | .tup xs=>xs.length<=sizeLine/\∃ its:List Value,Vals xs its/\IsTup h a its.toArray
 | .dK kvs=>kvs.length<=sizeLine/\(a == sysModules)=false/\∃ vs,KV kvs vs/\h.DictOf (mixKind P w) a vs
 | .dT kvs=>kvs.length<=sizeLine/\(a == sysModules)=false/\∃ xs:List (List Key×Addr×Value),
   Paired (fun (p:List Key×V) (q:List Key×Addr×Value)=>p.1=q.1/\H q.2.1=some (.tup (p.1.map kV))/\RelV p.2 q.2.2) kvs xs /\
   ∃ o es ep,h.get? a=some o/\o.ExactDict/\o.data=.dict es ep/\es.toList=xs.map (entryOfKey (tupleKind (mixKind P w)))/\(xs.map (·.1)).Nodup
 | .set S n=>h.SetOf (intKind P w) a S n
 | .ins C dx fs=>H dx=some (.own a)/\fs.length<=1000/\dx≠a/\h.get? a=some (PySem.W.instObj C dx) /\
   ∃ mA,h.Ns1 dx mA/\(∀ f,RelO (fs.lookup f) (mA f))/\PySem.Within mA (fs.map (·.1))
 | .own _=>∃ o,h.get? a=some o
 | .xd fs=>∃ mA,h.Ns1 a mA/\∀ f,RelO (fs.lookup f) (mA f)
 | .rng lo hi=>∃ t u v,h.get? a=some { cls:=.type "range",data:=.fields #[.int lo t,.int hi u,.int 1 v] }
 | .frz o u=>h.get? a=some o/\ObjOk H h a u
 | .tbl ps=>h.get? a=some { cls:=.none,data:=.fields ps }
 | .met f x=>h.get? a=some (PySem.W.methodObj (.ref f) (.ref x))
 | .ext φ=>φ h/\(∃ o,h.get? a=some o)/\∀ h1 h2:Heap,φ h1->(∀ o,h1.get? a=some o->h2.get? a=some o)->φ h2
def HOk (H:Hp) (h:Heap):Prop:=∀ a o,H a=some o->ObjOk P w H h a o
end
section
variable {P:Program} {w:World} {H H':Hp} {h h':Heap} {a:Addr} {o:HO}
theorem ObjOk.lt (x:ObjOk P w H h a o):a<h.objs.size:=by
 cases o with
 | lst xs=>obtain⟨_,_,_,_,e⟩:=x; exact Heap.lt_size e
 | tup xs=>obtain⟨_,_,_,p⟩:=x; exact p.lt
 | dK kvs=>obtain⟨_,_,_,_,o,_,_,e,_⟩:=x; exact Heap.lt_size e
 | dT kvs=>obtain⟨_,_,_,_,o,_,_,e,_⟩:=x; exact Heap.lt_size e
 | set S n=>obtain⟨o,_,_,_,e,_⟩:=x; exact Heap.lt_size e
 | ins C dx fs=>obtain⟨_,_,_,e,_⟩:=x; exact Heap.lt_size e
 | own y=>obtain⟨_,e⟩:=x; exact Heap.lt_size e
 | xd fs=>obtain⟨_,⟨_,_,_,e,_⟩,_⟩:=x; exact Heap.lt_size e
 | rng lo hi=>obtain⟨_,_,_,e⟩:=x; exact Heap.lt_size e
 | frz ob u=>obtain⟨e,_⟩:=x; exact Heap.lt_size e
 | tbl ps=>exact Heap.lt_size (show h.get? a=some _ from x)
 | met f y=>exact Heap.lt_size (show h.get? a=some _ from x)
 | ext φ=>obtain⟨_,⟨_,e⟩,_⟩:=x; exact Heap.lt_size e
theorem Paired.mapP {α β:Type} {F G:α->β->Prop}:∀ {l₁:List α} {l₂:List β},Paired F l₁ l₂->(∀ a b,F a b->G a b)->Paired G l₁ l₂
 | _,_,.nil,_=>.nil
 | _,_,.cons r t,f=>.cons (f _ _ r) (Paired.mapP t f)
theorem ObjOk.stay (x:ObjOk P w H h a o) (k:∀ b u,(b=a\/H b=some (.own a))->h.get? b=some u->h'.get? b=some u)
  (ho:∀ b,H b=some (.own a)->H' b=some (.own a)) (ht:∀ b xs,H b=some (.tup xs)->H' b=some (.tup xs)):ObjOk P w H' h' a o:=by
 induction o with
 | lst xs=>obtain⟨z,its,n,r,e⟩:=x; exact⟨z,its,n,r,k _ _ (.inl rfl) e⟩
 | tup xs=>obtain⟨z,its,r,ob,e,c⟩:=x; exact⟨z,its,r,ob,k _ _ (.inl rfl) e,c⟩
 | dK kvs=>obtain⟨z,y,vs,r,ob,es,ep,e,c⟩:=x; exact⟨z,y,vs,r,ob,es,ep,k _ _ (.inl rfl) e,c⟩
 | dT kvs=>
  obtain⟨z,y,xs,r,ob,es,ep,e,c⟩:=x
  exact⟨z,y,xs,Paired.mapP r fun p q z=>⟨z.1,ht _ _ z.2.1,z.2.2⟩,ob,es,ep,k _ _ (.inl rfl) e,c⟩
 | set S n=>obtain⟨ob,es,ep,t,e,c⟩:=x; exact⟨ob,es,ep,t,k _ _ (.inl rfl) e,c⟩
 | ins C dx fs=>
  obtain⟨d,z,ne,e,mA,⟨od,es,ep,e2,c⟩,r⟩:=x
  exact⟨ho _ d,z,ne,k _ _ (.inl rfl) e,mA,⟨od,es,ep,k _ _ (.inr d) e2,c⟩,r⟩
 | own y=>obtain⟨ob,e⟩:=x; exact⟨ob,k _ _ (.inl rfl) e⟩
 | xd fs=>obtain⟨mA,⟨od,es,ep,e,c⟩,r⟩:=x; exact⟨mA,⟨od,es,ep,k _ _ (.inl rfl) e,c⟩,r⟩
 | rng lo hi=>obtain⟨t,u,v,e⟩:=x; exact⟨t,u,v,k _ _ (.inl rfl) e⟩
 | frz ob u ih=>obtain⟨e,q⟩:=x; exact⟨k _ _ (.inl rfl) e,ih q⟩
 | tbl ps=>
  have e:h.get? a=some { cls:=.none,data:=.fields ps }:=x
  show h'.get? a=some { cls:=.none,data:=.fields ps }
  exact k a _ (.inl rfl) e
 | met f y=>
  have e:h.get? a=some (PySem.W.methodObj (.ref f) (.ref y)):=x
  show h'.get? a=some (PySem.W.methodObj (.ref f) (.ref y))
  exact k a _ (.inl rfl) e
 | ext φ=>obtain⟨p,⟨o,e⟩,st⟩:=x; exact⟨st _ _ p fun o q=>k _ _ (.inl rfl) q,⟨o,k _ _ (.inl rfl) e⟩,st⟩
theorem HOk.lt (x:HOk P w H h) (e:H a=some o):a<h.objs.size:=(x a o e).lt
theorem HOk.fresh (x:HOk P w H h) (e:h.objs.size<=a):H a=none:=by
 cases q:H a with
 | none=>rfl
 | some u=>exact absurd (Nat.lt_of_lt_of_le (x.lt q) e) (Nat.lt_irrefl _)
theorem HOk.kept (x:HOk P w H h) (k:∀ b u,h.get? b=some u->h'.get? b=some u):HOk P w H h':=fun a o e=>
 (x a o e).stay (fun b u _ q=>k b u q) (fun _ q=>q) fun _ _ q=>q
theorem HOk.laid (x:HOk P w H h) (k:∀ b u,h.get? b=some u->h'.get? b=some u) (hp:h.objs.size<=a) (new:ObjOk P w (upd H a o) h' a o):HOk P w (upd H a o) h':=fun b u e=>by
 have hn:=x.fresh hp
 by_cases hb:b=a
 ·subst hb; rw[upd_same] at e; cases e; exact new
 ·rw[upd_ne hb] at e
  exact (x b u e).stay (fun c v _ q=>k c v q) (fun c q=>by rw[upd_ne (ne_of_none q hn)]; exact q) fun c xs q=>by rw[upd_ne (ne_of_none q hn)]; exact q
end
def Rd (H:Hp) (a:Addr) (u:HO):Prop:=H a=some u\/∃ o,H a=some (.frz o u)
theorem Rd.ok {P:Program} {w:World} {H:Hp} {h:Heap} {a:Addr} {u:HO} (r:Rd H a u) (x:HOk P w H h):ObjOk P w H h a u:=by
 rcases r with r | ⟨o,r⟩
 ·exact x a u r
 ·obtain⟨_,q⟩:=x a _ r
  exact q
def Mut:Option HO->Prop
 | some (.lst _)=>True
 | some (.dK _)=>True
 | some (.dT _)=>True
 | some (.set _ _)=>True
 | some (.ins _ _ _)=>True
 | some (.ext _)=>True
 | _=>False
section
variable {P:Program} {w:World} {H:Hp} {h h':Heap} {x e:Addr} {o':HO}
theorem HOk.write (ok:HOk P w H h) (mu:Mut (H x)) (he:e=x\/H e=some (.own x)) (k:∀ b u,b≠e->h.get? b=some u->h'.get? b=some u) (heo:∃ u,h'.get? e=some u)
  (new:ObjOk P w (upd H x o') h' x o'):HOk P w (upd H x o') h':=fun b u q=>by
 have nown:∀ c y,H c=some (.own y)->c≠x:=fun c y r z=>by subst z; rw[r] at mu; exact mu
 have ntup:∀ c xs,H c=some (.tup xs)->c≠x:=fun c xs r z=>by subst z; rw[r] at mu; exact mu
 by_cases hb:b=x
 ·subst hb; rw[upd_same] at q; cases q; exact new
 ·rw[upd_ne hb] at q
  by_cases hbe:b=e
  ·have q':H b=some (.own x):=by
    rcases he with z | z
    ·exact absurd (hbe.trans z) hb
    ·rw[hbe]; exact z
   rw[q] at q'; cases q'
   obtain⟨v,hv⟩:=heo
   exact⟨v,by rw[hbe]; exact hv⟩
  ·refine (ok b u q).stay (fun c v hc r=>k c v ?_ r) (fun c r=>by rw[upd_ne (nown c b r)]; exact r) fun c xs r=>by rw[upd_ne (ntup c xs r)]; exact r
   rcases hc with rfl | hc
   ·exact hbe
   ·rintro rfl
    rcases he with z | z
    ·exact nown c b hc z
    ·rw[hc] at z; cases z; exact hb rfl
end
structure Un (fs ex:List Addr) (H H':Hp) (h h':Heap):Prop where
 keep:∀ b o,h.get? b=some o->H b=none->b∉fs->b∉ex->h'.get? b=some o
 slot:∀ b o,h.get? b=some o->H b=none->b∈fs->b∉ex->∃ sl,h'.get? b=some { o with slots:=sl }
 free:∀ b o,h.get? b=some o->H b=none->b∉ex->H' b=none
 there:∀ b o,h.get? b=some o->b∉ex->∃ o',h'.get? b=some o'
 tups:∀ b xs,H b=some (.tup xs)->H' b=some (.tup xs)
 frzs:∀ b o u,H b=some (.frz o u)->H' b=some (.frz o u)
 tbls:∀ b ps,H b=some (.tbl ps)->∃ more,H' b=some (.tbl (ps++more))
section
variable {fs fs' ex ex':List Addr} {H H1 H2:Hp} {h h1 h2 h':Heap} {a x e:Addr} {o:HO}
theorem Un.any (u:Un fs ex H H1 h h1) {b:Addr} {ob:Obj} (q:h.get? b=some ob) (n:H b=none) (hx:b∉ex):∃ sl,h1.get? b=some { ob with slots:=sl }:=by
 by_cases hb:b∈fs
 ·exact u.slot b ob q n hb hx
 ·exact⟨ob.slots,u.keep b ob q n hb hx⟩
theorem Un.kept (k:∀ b u,h.get? b=some u->h'.get? b=some u):Un fs ex H H h h':=
 ⟨fun b ob q _ _ _=>k b ob q,fun b ob q _ _ _=>⟨ob.slots,k b ob q⟩,fun _ _ _ n _=>n,fun b ob q _=>⟨ob,k b ob q⟩,fun _ _ q=>q,fun _ _ _ q=>q,fun _ ps q=>⟨#[],by rw[q]; simp⟩⟩
theorem Un.refl:Un fs ex H H h h:=Un.kept fun _ _ q=>q
theorem Un.laid (k:∀ b u,h.get? b=some u->h'.get? b=some u) (hp:h.objs.size<=a) (hn:H a=none):Un fs ex H (upd H a o) h h' where
 keep:=fun b u q _ _ _=>k b u q
 slot:=fun b u q _ _ _=>⟨u.slots,k b u q⟩
 free:=fun b u q n _=>by rw[upd_ne (Nat.ne_of_lt (Nat.lt_of_lt_of_le (Heap.lt_size q) hp))]; exact n
 there:=fun b u q _=>⟨u,k b u q⟩
 tups:=fun b xs q=>by rw[upd_ne (ne_of_none q hn)]; exact q
 frzs:=fun b u xs q=>by rw[upd_ne (ne_of_none q hn)]; exact q
 tbls:=fun b ps q=>⟨#[],by rw[upd_ne (ne_of_none q hn),q]; simp⟩
theorem Un.write (mu:Mut (H x)) (he:e=x\/H e=some (.own x)) (k:∀ b u,b≠e->h.get? b=some u->h'.get? b=some u) (heo:∃ u,h'.get? e=some u):Un fs ex H (upd H x o) h h':=by
 have hx:∀ b,H b=none->b≠x:=fun b n z=>by subst z; rw[n] at mu; exact mu
 have hb:∀ b,H b=none->b≠e:=fun b n z=>by
  subst z
  rcases he with r | r
  ·exact hx b n r
  ·rw[n] at r; cases r
 have hm:∀ b u,H b=some u->¬ Mut (some u)->b≠x:=fun b u q nm z=>by subst z; rw[q] at mu; exact nm mu
 refine⟨fun b u q n _ _=>k b u (hb b n) q,fun b u q n _ _=>⟨u.slots,k b u (hb b n) q⟩,fun b u q n _=>by rw[upd_ne (hx b n)]; exact n,fun b u q _=>?_,
  fun b xs q=>by rw[upd_ne (hm b _ q fun z=>z)]; exact q,fun b u xs q=>by rw[upd_ne (hm b _ q fun z=>z)]; exact q,fun b ps q=>⟨#[],by rw[upd_ne (hm b _ q fun z=>z),q]; simp⟩⟩
 by_cases hbe:b=e
 ·subst hbe; exact heo
 ·exact⟨u,k b u hbe q⟩
end
def trk (h:Heap) (H:Hp):List Addr:=(List.range h.objs.size).filter fun a=>(H a).isSome
def hidT (h:Heap) (H:Hp):Heap:=PySem.W.hideAll h (trk h H)
theorem hidT_size (h:Heap) (H:Hp):(hidT h H).objs.size=h.objs.size:=PySem.W.hideAll_size _ _
theorem hidT_get {h:Heap} {H:Hp} {b:Addr} {o:Obj} (e:h.get? b=some o) (n:H b=none):(hidT h H).get? b=some o:=
 PySem.W.hideAll_get _ e fun hm=>by
  have q:(H b).isSome=true:=(List.mem_filter.mp hm).2
  rw[n] at q; simp at q
theorem of_hidT {h:Heap} {H:Hp} {b:Addr} {o:Obj} (e:(hidT h H).get? b=some o):h.get? b=some o/\H b=none:=by
 have e':h.get? b=some o:=PySem.W.of_hideAll (trk h H) e
 refine⟨e',?_⟩
 cases q:H b with
 | none=>rfl
 | some x=>
  have hm:b∈trk h H:=List.mem_filter.mpr ⟨List.mem_range.mpr (Heap.lt_size e'),by simp[q]⟩
  have z:(hidT h H).get? b=none:=PySem.W.hideAll_none (trk h H) hm
  rw[z] at e; cases e
end L2
namespace L2
open PySem PySem.Spec PyProof.Rows
structure Mod (K:PySem.W.Frag) (mg:Str->Option Value) (base:Heap):Prop where
 kin:K.In base
 glob:base.Ns mainGlobals mg
 blt:∃ mb,base.Ns builtinsNs mb/\∀ x:Str,x ≠ "__name__" -> mb x=bootBuiltins x
 nolimit:base.NoLimit
structure Cx where
 prog:Program
 w:World
 K:PySem.W.Frag
 mg:Str->Option Value
 base:Heap
 A:Around
 N:List Str
 s₀:Shared
 H₀:Hp
 env:Env
 outer:List Env
 stack:List Env
 ex:List Addr
 fn:Str->Bool
 calm:Bool
 pn:List (Addr×Obj)
 xe:Value->Shared->Prop
def frs (l:List Env):List Addr:=l.filterMap (·.frame)
abbrev Cx.fs (X:Cx):List Addr:=frs X.outer
def Vis (sc:Scope) (x:Str):Prop:=sc.names.lookup x=some .local\/sc.names.lookup x=some .cell\/sc.names.lookup x=some .free
def Loc (sc:Scope) (x:Str):Prop:=sc.names.lookup x=some .local\/sc.names.lookup x=some .cell
def Look (env:Env) (h:Heap) (m:Str->Option Value) (x:Str) (u:Value):Prop:=
 (env.kindOf x=some .local/\m x=some u)\/((env.kindOf x=some .cell\/env.kindOf x=some .free)/\∃ c,env.cells.lookup x=some c/\h.IsCell c (some u))
structure Cx.Ok (X:Cx):Prop where
 mod:Mod X.K X.mg X.base
 kind:X.env.scope.kind=.function
 glob:X.env.globals=mainGlobals
 blt:X.env.builtins=builtinsNs
 above:X.s₀.heap.objs.size<=X.env.locals
 inj:∀ x y c,X.env.cells.lookup x=some c->X.env.cells.lookup y=some c->x=y
 has:∀ x,(X.env.kindOf x=some .cell\/X.env.kindOf x=some .free)->∃ c,X.env.cells.lookup x=some c
 cab:∀ x c,X.fn x=true->X.env.cells.lookup x=some c->X.s₀.heap.objs.size<=c
 hd:X.calm=true->X.A.handled=none
 frames:X.A.frames=some X.stack
 stk:X.stack=X.outer\/(X.stack=X.env::X.outer/\X.env.frame=some X.env.locals)
 exf:∀ b∈X.ex,b≠X.env.locals/\∀ x c,X.env.cells.lookup x=some c->c≠b
 bs:∀ b o,X.base.get? b=some o->X.s₀.heap.get? b=some o/\X.H₀ b=none
 bsz:X.base.objs.size<=X.s₀.heap.objs.size
 noex:∀ b o,X.base.get? b=some o->b∉X.ex
 exfs:∀ b∈X.ex,b∉X.fs
 funs:X.s₀.heap.FunFrames X.base X.outer
 frf:∀ b∈X.fs,X.H₀ b=none
structure Inv (X:Cx) (pins:List (Addr×Obj)) (σ:List (Option V)) (H:Hp) (s:Shared):Prop where
 ok:X.Ok
 os:s.os=X.s₀.os
 bare:AllBare s.gens
 base:Un X.fs X.ex X.H₀ H X.s₀.heap s.heap
 loc:∃ m,s.heap.Ns X.env.locals m/\∀ (i:Nat) (x:Str) (v:V),X.N[i]?=some x->σ[i]?=some (some v)->Vis X.env.scope x->∃ u,RelV v u/\Look X.env s.heap m x u
 cell:∀ x c,X.env.cells.lookup x=some c->∃ v,s.heap.IsCell c v
 free:H X.env.locals=none
 freeC:∀ x c,X.env.cells.lookup x=some c->H c=none
 pin:∀ p∈X.pn++pins,s.heap.get? p.1=some p.2/\H p.1=none/\p.1≠X.env.locals/\p.1∉X.fs/\∀ v,p.2.data≠.cell v
 hok:HOk X.prog X.w H s.heap
 len:σ.length=X.N.length
section
variable {X:Cx} {pins:List (Addr×Obj)} {σ:List (Option V)} {H H':Hp} {s:Shared} {h':Heap}
theorem Cx.Ok.nofr (ok:X.Ok) {b:Addr} {o:Obj} (e:X.base.get? b=some o):b∉X.fs:=fun hb=>by
 have:=(ok.funs.mem hb).1
 rw[e] at this; cases this
theorem Inv.bs (I:Inv X pins σ H s):∀ b o,X.base.get? b=some o->s.heap.get? b=some o/\H b=none:=fun b o e=>
 ⟨I.base.keep b o (I.ok.bs b o e).1 (I.ok.bs b o e).2 (I.ok.nofr e) (I.ok.noex b o e),I.base.free b o (I.ok.bs b o e).1 (I.ok.bs b o e).2 (I.ok.noex b o e)⟩
theorem Inv.bk (I:Inv X pins σ H s):∀ b o,X.base.get? b=some o->s.heap.get? b=some o:=fun b o e=>(I.bs b o e).1
theorem Inv.mod (I:Inv X pins σ H s):Mod X.K X.mg X.base:=I.ok.mod
theorem Inv.kIn (I:Inv X pins σ H s):X.K.In s.heap:=I.ok.mod.kin.keeps I.bk
theorem Inv.lt (I:Inv X pins σ H s):X.env.locals<s.heap.objs.size:=let ⟨_,hn,_⟩:=I.loc; hn.lt
theorem Inv.sz (I:Inv X pins σ H s):X.s₀.heap.objs.size<=s.heap.objs.size:=Nat.le_trans I.ok.above (Nat.le_of_lt I.lt)
theorem Inv.nofs (I:Inv X pins σ H s) {a:Addr} (h:s.heap.objs.size<=a):a∉X.fs:=fun hb=>by
 obtain⟨_,o,ho,_⟩:=I.ok.funs.mem hb
 exact absurd (Nat.lt_of_lt_of_le (Heap.lt_size ho) (Nat.le_trans I.sz h)) (Nat.lt_irrefl _)
theorem Inv.cne (I:Inv X pins σ H s):∀ x c,X.env.cells.lookup x=some c->c≠X.env.locals:=fun x c e z=>by
 obtain⟨v,o,ho,hd⟩:=I.cell x c e
 obtain⟨m,⟨o',es,ep,ho',hd',_⟩,_⟩:=I.loc
 rw[z,ho'] at ho; cases ho; rw[hd'] at hd; cases hd
theorem Inv.funs (I:Inv X pins σ H s):s.heap.FunFrames X.base X.outer:=by
 have all:∀ (l:List Env),(∀ b∈frs l,b∈X.fs)->X.s₀.heap.FunFrames X.base l->s.heap.FunFrames X.base l:=by
  intro l
  induction l with
  | nil=>intro _ _; trivial
  | cons env r ih=>
   intro hs hl
   obtain⟨hk,⟨L,o,hf,hn,ho,hd⟩,hr⟩:=hl
   have hL:L∈X.fs:=hs L (by unfold frs; rw[List.filterMap_cons,hf]; exact List.mem_cons_self)
   obtain⟨sl,e⟩:=I.base.slot L o ho (I.ok.frf L hL) hL fun z=>I.ok.exfs L z hL
   exact⟨hk,⟨L,_,hf,hn,e,hd⟩,ih (fun b hb=>hs b (by unfold frs; rw[List.filterMap_cons,hf]; exact List.mem_cons_of_mem _ hb)) hr⟩
 exact all X.outer (fun _ hb=>hb) I.ok.funs
theorem Inv.stack (I:Inv X pins σ H s):s.heap.FunFrames X.base X.stack:=by
 rcases I.ok.stk with e | ⟨e,hf⟩
 ·rw[e]; exact I.funs
 ·rw[e]
  obtain⟨m,hn,_⟩:=I.loc
  refine .cons (by rw[I.ok.kind]; decide) hf hn ?_ I.funs
  exact Heap.get?_none_of_le (Nat.le_trans I.ok.bsz I.ok.above)
theorem Inv.stkSub (I:Inv X pins σ H s):∀ b∈frs X.stack,b∈X.env.locals::X.fs:=fun b hb=>by
 rcases I.ok.stk with e | ⟨e,hf⟩
 ·rw[e] at hb; exact List.mem_cons_of_mem _ hb
 ·rw[e] at hb
  unfold frs at hb
  rw[List.filterMap_cons,hf] at hb
  exact hb
theorem Inv.stkFree (I:Inv X pins σ H s):∀ b∈frs X.stack,H b=none:=fun b hb=>by
 rcases List.mem_cons.mp (I.stkSub b hb) with e | hb
 ·rw[e]; exact I.free
 ·obtain⟨_,o,ho,_⟩:=I.ok.funs.mem hb
  exact I.base.free b o ho (I.ok.frf b hb) fun z=>I.ok.exfs b z hb
theorem Inv.step {g':Array GenState} {t':Nat} {d':Drawn} {ch:List Addr} (I:Inv X pins σ H s)
  (hch:∀ b∈ch,(b∈X.ex\/X.s₀.heap.objs.size<=b)/\b≠X.env.locals/\(∀ x c,X.env.cells.lookup x=some c->c≠b)/\∀ p∈X.pn++pins,p.1≠b)
  (keep:∀ b o,b≠X.env.locals->b∉X.fs->b∉ch->s.heap.get? b=some o->H b=none->h'.get? b=some o)
  (slot:∀ b o,b≠X.env.locals->b∈X.fs->b∉ch->s.heap.get? b=some o->H b=none->∃ sl,h'.get? b=some { o with slots:=sl }) (free:∀ b o,b∉ch->s.heap.get? b=some o->H b=none->H' b=none)
  (there:∀ b o,b∉ch->s.heap.get? b=some o->∃ o',h'.get? b=some o')
  (tups:∀ b xs,H b=some (.tup xs)->H' b=some (.tup xs)) (frzs:∀ b o u,H b=some (.frz o u)->H' b=some (.frz o u)) (tbls:∀ b ps,H b=some (.tbl ps)->∃ more,H' b=some (.tbl (ps++more)))
  (ns:∀ m,s.heap.Ns X.env.locals m->h'.Ns X.env.locals m) (hok:HOk X.prog X.w H' h') (hg:AllBare g') :
  Inv X pins σ H' { s with heap:=h',gens:=g',drawn:=d',toks:=t' }:=by
 have neL:∀ b o,X.s₀.heap.get? b=some o->b≠X.env.locals:=fun b o e=>Nat.ne_of_lt (Nat.lt_of_lt_of_le (Heap.lt_size e) I.ok.above)
 have neC:∀ b o,X.s₀.heap.get? b=some o->b∉X.ex->b∉ch:=fun b o e hx hb=>by
  rcases (hch b hb).1 with z | z
  ·exact hx z
  ·exact absurd (Nat.lt_of_lt_of_le (Heap.lt_size e) z) (Nat.lt_irrefl _)
 have cellK:∀ x c,X.env.cells.lookup x=some c->∀ v,s.heap.IsCell c v->h'.IsCell c v:=fun x c e v ⟨o,ho,hd⟩=>by
  have nch:c∉ch:=fun z=>(hch c z).2.2.1 x c e rfl
  by_cases hc:c∈X.fs
  ·obtain⟨sl,q⟩:=slot c o (I.cne x c e) hc nch ho (I.freeC x c e)
   exact⟨_,q,hd⟩
  ·exact⟨o,keep c o (I.cne x c e) hc nch ho (I.freeC x c e),hd⟩
 refine⟨I.ok,I.os,hg,⟨fun b o e n hb hx=>?_,fun b o e n hb hx=>?_,fun b o e n hx=>?_,fun b o e hx=>?_,fun b xs e=>tups b xs (I.base.tups b xs e),fun b o xs e=>frzs b o xs (I.base.frzs b o xs e),fun b ps e=>?_⟩,?_,fun x c e=>?_,?_,fun x c e=>?_,fun p hp=>?_,hok,I.len⟩
 ·exact keep b o (neL b o e) hb (neC b o e hx) (I.base.keep b o e n hb hx) (I.base.free b o e n hx)
 ·obtain⟨sl,e1⟩:=I.base.slot b o e n hb hx
  obtain⟨sl',e2⟩:=slot b _ (neL b o e) hb (neC b o e hx) e1 (I.base.free b o e n hx)
  exact⟨sl',e2⟩
 ·obtain⟨o',e1⟩:=I.base.there b o e hx
  exact free b o' (neC b o e hx) e1 (I.base.free b o e n hx)
 ·obtain⟨o',e1⟩:=I.base.there b o e hx
  exact there b o' (neC b o e hx) e1
 ·obtain⟨m1,e1⟩:=I.base.tbls b ps e
  obtain⟨m2,e2⟩:=tbls b _ e1
  exact⟨m1++m2,by rw[e2,Array.append_assoc]⟩
 ·obtain⟨m,hn,hl⟩:=I.loc
  refine⟨m,ns m hn,fun i x v e1 e2 e3=>?_⟩
  obtain⟨u,r,l⟩:=hl i x v e1 e2 e3
  refine⟨u,r,?_⟩
  rcases l with l | ⟨k,c,e,z⟩
  ·exact .inl l
  ·exact .inr ⟨k,c,e,cellK x c e _ z⟩
 ·obtain⟨v,z⟩:=I.cell x c e
  exact⟨v,cellK x c e v z⟩
 ·obtain⟨m,⟨o,_,_,ho,_⟩,_⟩:=I.loc
  exact free _ o (fun z=>(hch _ z).2.1 rfl) ho I.free
 ·obtain⟨v,o,ho,hd⟩:=I.cell x c e
  exact free c o (fun z=>(hch c z).2.2.1 x c e rfl) ho (I.freeC x c e)
 ·obtain⟨e,n,ne,nf,d⟩:=I.pin p hp
  have nch:p.1∉ch:=fun z=>(hch p.1 z).2.2.2 p hp rfl
  exact⟨keep p.1 p.2 ne nf nch e n,free p.1 p.2 nch e n,ne,nf,d⟩
theorem Inv.un {t':Nat} (I:Inv X pins σ H s) (u:Un X.fs [] H H' s.heap h') (hok:HOk X.prog X.w H' h'):Inv X pins σ H' { s with heap:=h',toks:=t' }:=by
 obtain⟨m,⟨o,es,ep,ho,r⟩,_⟩:=id I.loc
 obtain⟨sl,hL⟩:=u.any ho I.free (by simp)
 exact I.step (g':=s.gens) (d':=s.drawn) (ch:=[]) (fun _ z=>nomatch z) (fun b o _ hb _ e n=>u.keep b o e n hb (by simp)) (fun b o _ hb _ e n=>u.slot b o e n hb (by simp)) (fun b o _ e n=>u.free b o e n (by simp)) (fun b o _ e=>u.there b o e (by simp)) u.tups u.frzs u.tbls (fun m' hm=>by
  obtain⟨o',es',ep',ho',r'⟩:=hm
  rw[ho] at ho'; cases ho'
  exact⟨_,es',ep',hL,r'⟩) hok I.bare
theorem Inv.call {g':Array GenState} {t':Nat} {d':Drawn} {ch:List Addr} (I:Inv X pins σ H s) (u:Un (frs X.stack) ch H H' s.heap h') (hok:HOk X.prog X.w H' h') (hg:AllBare g')
  (hch:∀ b∈ch,(b∈X.ex\/X.s₀.heap.objs.size<=b)/\b≠X.env.locals/\(∀ x c,X.env.cells.lookup x=some c->c≠b)/\∀ p∈X.pn++pins,p.1≠b) :
  Inv X pins σ H' { s with heap:=h',gens:=g',drawn:=d',toks:=t' }:=by
 obtain⟨m,⟨o,es,ep,ho,r⟩,_⟩:=id I.loc
 obtain⟨sl,hL⟩:=u.any ho I.free fun z=>(hch _ z).2.1 rfl
 exact I.step (ch:=ch) hch (fun b o hL hb hc e n=>u.keep b o e n (fun z=>(List.mem_cons.mp (I.stkSub b z)).elim hL hb) hc) (fun b o _ _ hc e n=>u.any e n hc) (fun b o hc e n=>u.free b o e n hc) (fun b o hc e=>u.there b o e hc) u.tups u.frzs u.tbls (fun m' hm=>by
  obtain⟨o',es',ep',ho',r'⟩:=hm
  rw[ho] at ho'; cases ho'
  exact⟨_,es',ep',hL,r'⟩) hok hg
theorem Inv.turned {t':Nat} {it:Addr} (I:Inv X pins σ H s) (k:∀ b o,b≠it->s.heap.get? b=some o->h'.get? b=some o) (hn:H it=none) (hL:it≠X.env.locals)
  (h1:it∈X.ex\/X.s₀.heap.objs.size<=it) (h2:∀ x c,X.env.cells.lookup x=some c->c≠it) (h3:∀ p∈X.pn++pins,p.1≠it):Inv X pins σ H { s with heap:=h',toks:=t' }:=by
 have nit:∀ b u,H b=some u->b≠it:=fun b u e z=>by rw[z,hn] at e; cases e
 refine I.step (g':=s.gens) (d':=s.drawn) (ch:=[it]) (fun b hb=>?_) (fun b o _ _ hc e _=>k b o (fun z=>hc (by simp[z])) e) (fun b o _ _ hc e _=>⟨o.slots,k b o (fun z=>hc (by simp[z])) e⟩) (fun _ _ _ _ n=>n)
  (fun b o hc e=>⟨o,k b o (fun z=>hc (by simp[z])) e⟩) (fun _ _ e=>e) (fun _ _ _ e=>e) (fun b ps e=>⟨#[],by rw[e]; simp⟩) (fun m hm=>?_) (fun b u e=>?_) I.bare
 ·have e:b=it:=by simpa using hb
  subst e
  exact⟨h1,hL,h2,h3⟩
 ·obtain⟨o,es,ep,ho,r⟩:=hm
  exact⟨o,es,ep,k _ o (Ne.symm hL) ho,r⟩
 ·refine (I.hok b u e).stay (fun c v hc q=>k c v ?_ q) (fun _ q=>q) fun _ _ q=>q
  rcases hc with z | z
  ·rw[z]; exact nit b u e
  ·exact nit c _ z
theorem Inv.tok (I:Inv X pins σ H s) (t:Nat):Inv X pins σ H { s with toks:=t }:=I.un (h':=s.heap) (t':=t) Un.refl I.hok
theorem Inv.kept {t':Nat} (I:Inv X pins σ H s) (k:∀ b u,s.heap.get? b=some u->h'.get? b=some u):Inv X pins σ H { s with heap:=h',toks:=t' }:=I.un (Un.kept k) (I.hok.kept k)
theorem Inv.laid {a:Addr} {o:HO} {t':Nat} (I:Inv X pins σ H s) (k:∀ b u,s.heap.get? b=some u->h'.get? b=some u) (hp:s.heap.objs.size<=a) (new:ObjOk X.prog X.w (upd H a o) h' a o) :
  Inv X pins σ (upd H a o) { s with heap:=h',toks:=t' }:=I.un (Un.laid k hp (I.hok.fresh hp)) (I.hok.laid k hp new)
theorem Inv.write {x e:Addr} {o:HO} {t':Nat} (I:Inv X pins σ H s) (mu:Mut (H x)) (he:e=x\/H e=some (.own x)) (k:∀ b u,b≠e->s.heap.get? b=some u->h'.get? b=some u) (heo:∃ u,h'.get? e=some u)
  (new:ObjOk X.prog X.w (upd H x o) h' x o):Inv X pins σ (upd H x o) { s with heap:=h',toks:=t' }:=I.un (Un.write mu he k heo) (I.hok.write mu he k heo new)
theorem Inv.pins_of {pins':List (Addr×Obj)} (I:Inv X pins σ H s) (h:∀ p∈pins',s.heap.get? p.1=some p.2/\H p.1=none/\p.1≠X.env.locals/\p.1∉X.fs/\∀ v,p.2.data≠.cell v):Inv X pins' σ H s:=
 ⟨I.ok,I.os,I.bare,I.base,I.loc,I.cell,I.free,I.freeC,fun p hp=>(List.mem_append.mp hp).elim (fun z=>I.pin p (List.mem_append_left _ z)) (h p),I.hok,I.len⟩
theorem nodup_ix {N:List Str} (hN:N.Nodup) {i j:Nat} {x:Str} (a:N[i]?=some x) (b:N[j]?=some x):i=j:=by
 obtain⟨h1,e1⟩:=List.getElem?_eq_some_iff.mp a
 obtain⟨h2,e2⟩:=List.getElem?_eq_some_iff.mp b
 exact (List.getElem_inj hN).mp (e1.trans e2.symm)
theorem store_ok2 {M:Model} {A:Around} {E:Value->Shared->Prop} {i:Nat} {x:Str} {v:V} {u:Value} {Q:Unit->Shared->Prop} (I:Inv X pins σ H s) (hN:X.N.Nodup) (hi:X.N[i]?=some x) (hx:Loc X.env.scope x) (r:RelV v u)
  (h:∀ s',Inv X pins (σ.set i (some v)) H s'->(∃ a,Heap.SameBut a s.heap s'.heap/\(a=X.env.locals\/X.env.cells.lookup x=some a))->Q () s') (hf:X.fn x=true\/X.env.scope.names.lookup x=some .local:=by first | exact .inl rfl | exact .inr rfl | assumption):wpAny M A (storeName X.env x u) Q E s:=by
 obtain⟨m,hn,hl⟩:=id I.loc
 have hcls:(X.env.scope.kind == .class||(X.env.scope.kind == .module&&X.env.locals != X.env.globals))=false:=by rw[I.ok.kind]; rfl
 have hiσ:i<σ.length:=by rw[I.len]; exact (List.getElem?_eq_some_iff.mp hi).1
 have cne:=I.cne
 have tracked:∀ {a:Addr} {h':Heap},(∃ o,s.heap.get? a=some o/\H a=none)->Heap.SameBut a s.heap h'->HOk X.prog X.w H h':=fun {a h'} ha hs b ob e=>by
  obtain⟨_,_,hfree⟩:=ha
  refine (I.hok b ob e).stay (fun c w' hc q=>(hs.2 c ?_).trans q) (fun _ q=>q) fun _ _ q=>q
  rintro rfl
  rcases hc with rfl | hc
  ·rw[hfree] at e; cases e
  ·rw[hfree] at hc; cases hc
 rcases hx with hk | hk
 ·refine wpAny_storeName_local hk hn (fun h' hn' hs=>?_) hcls
  obtain⟨oL,_,_,hoL,_⟩:=id hn
  refine h _ ⟨I.ok,I.os,I.bare,⟨fun b o e n hb hx=>?_,fun b o e n hb hx=>?_,I.base.free,fun b o e hx=>?_,I.base.tups,I.base.frzs,I.base.tbls⟩,⟨_,hn',fun j y v' e1 e2 e3=>?_⟩,fun y c e=>?_,I.free,I.freeC,fun p hp=>?_,tracked ⟨oL,hoL,I.free⟩ hs,by simpa using I.len⟩ ⟨_,hs,.inl rfl⟩
  ·exact (hs.2 b (Nat.ne_of_lt (Nat.lt_of_lt_of_le (Heap.lt_size e) I.ok.above))).trans (I.base.keep b o e n hb hx)
  ·obtain⟨sl,e1⟩:=I.base.slot b o e n hb hx
   exact⟨sl,(hs.2 b (Nat.ne_of_lt (Nat.lt_of_lt_of_le (Heap.lt_size e) I.ok.above))).trans e1⟩
  ·obtain⟨o',e1⟩:=I.base.there b o e hx
   exact⟨o',(hs.2 b (Nat.ne_of_lt (Nat.lt_of_lt_of_le (Heap.lt_size e) I.ok.above))).trans e1⟩
  ·by_cases hj:j=i
   ·subst hj
    rw[hi] at e1; cases e1
    rw[List.getElem?_set_self hiσ] at e2
    cases e2
    exact⟨u,r,.inl ⟨hk,by simp⟩⟩
   ·rw[List.getElem?_set_ne (Ne.symm hj)] at e2
    obtain⟨u',r',q⟩:=hl j y v' e1 e2 e3
    refine⟨u',r',?_⟩
    rcases q with ⟨k,e⟩ | ⟨k,c,e,z⟩
    ·refine .inl ⟨k,?_⟩
     have:y≠x:=fun e=>hj (nodup_ix hN e1 (e ▸ hi))
     simp[this,e]
    ·exact .inr ⟨k,c,e,z.sameBut hs (cne y c e)⟩
  ·obtain⟨w',z⟩:=I.cell y c e
   exact⟨w',z.sameBut hs (cne y c e)⟩
  ·obtain⟨e,n,ne,nf,d⟩:=I.pin p hp
   exact⟨(hs.2 p.1 ne).trans e,n,ne,nf,d⟩
 ·have hfn:X.fn x=true:=by
   rcases hf with z | z
   ·exact z
   ·rw[z] at hk; cases hk
  obtain⟨c,hc⟩:=I.ok.has x (.inl hk)
  obtain⟨w',z⟩:=I.cell x c hc
  refine wpAny_storeName_cell I.ok.kind hk hc z (fun h' hc' hs=>?_)
  obtain⟨oc,hoc,hocd⟩:=id z
  refine h { s with heap:=h' } ⟨I.ok,I.os,I.bare,⟨fun b o e n hb hx=>?_,fun b o e n hb hx=>?_,I.base.free,fun b o e hx=>?_,I.base.tups,I.base.frzs,I.base.tbls⟩,⟨m,hn.sameBut hs (Ne.symm (cne x c hc)),fun j y v' e1 e2 e3=>?_⟩,fun y c' e=>?_,I.free,I.freeC,fun p hp=>?_,tracked ⟨oc,hoc,I.freeC x c hc⟩ hs,by simpa using I.len⟩ ⟨c,hs,.inr hc⟩
  ·exact (hs.2 b (Nat.ne_of_lt (Nat.lt_of_lt_of_le (Heap.lt_size e) (I.ok.cab x c hfn hc)))).trans (I.base.keep b o e n hb hx)
  ·obtain⟨sl,e1⟩:=I.base.slot b o e n hb hx
   exact⟨sl,(hs.2 b (Nat.ne_of_lt (Nat.lt_of_lt_of_le (Heap.lt_size e) (I.ok.cab x c hfn hc)))).trans e1⟩
  ·obtain⟨o',e1⟩:=I.base.there b o e hx
   exact⟨o',(hs.2 b (Nat.ne_of_lt (Nat.lt_of_lt_of_le (Heap.lt_size e) (I.ok.cab x c hfn hc)))).trans e1⟩
  ·by_cases hj:j=i
   ·subst hj
    rw[hi] at e1; cases e1
    rw[List.getElem?_set_self hiσ] at e2
    cases e2
    exact⟨u,r,.inr ⟨.inl hk,c,hc,hc'⟩⟩
   ·rw[List.getElem?_set_ne (Ne.symm hj)] at e2
    obtain⟨u',r',q⟩:=hl j y v' e1 e2 e3
    refine⟨u',r',?_⟩
    rcases q with q | ⟨k,c',e,z'⟩
    ·exact .inl q
    ·refine .inr ⟨k,c',e,z'.sameBut hs ?_⟩
     rintro rfl
     exact hj (nodup_ix hN e1 (I.ok.inj _ _ _ e hc ▸ hi))
  ·by_cases hcc:c'=c
   ·subst hcc; exact⟨_,hc'⟩
   ·obtain⟨w2,z2⟩:=I.cell y c' e
    exact⟨w2,z2.sameBut hs hcc⟩
  ·obtain⟨e,n,ne,nf,d⟩:=I.pin p hp
   refine⟨(hs.2 p.1 ?_).trans e,n,ne,nf,d⟩
   intro q
   rw[q,hoc] at e
   have q':oc=p.2:=Option.some.inj e
   exact d w' (by rw[<-q']; exact hocd)
theorem store_ok {M:Model} {A:Around} {E:Value->Shared->Prop} {i:Nat} {x:Str} {v:V} {u:Value} {Q:Unit->Shared->Prop} (I:Inv X pins σ H s) (hN:X.N.Nodup) (hi:X.N[i]?=some x) (hx:Loc X.env.scope x) (r:RelV v u)
  (h:∀ s',Inv X pins (σ.set i (some v)) H s'->Q () s') (hf:X.fn x=true\/X.env.scope.names.lookup x=some .local:=by first | exact .inl rfl | exact .inr rfl | assumption):wpAny M A (storeName X.env x u) Q E s:=
 store_ok2 I hN hi hx r (fun s' I' _=>h s' I') hf
theorem Inv.call' {s':Shared} {ch:List Addr} (I:Inv X pins σ H s) (ho:s'.os=s.os) (u:Un (frs X.stack) ch H H' s.heap s'.heap) (hok:HOk X.prog X.w H' s'.heap) (hg:AllBare s'.gens)
  (hch:∀ b∈ch,(b∈X.ex\/X.s₀.heap.objs.size<=b)/\b≠X.env.locals/\(∀ x c,X.env.cells.lookup x=some c->c≠b)/\∀ p∈X.pn++pins,p.1≠b):Inv X pins σ H' s':=by
 obtain⟨h',g',d',t',o'⟩:=s'
 have e:o'=s.os:=ho
 subst e
 exact I.call (g':=g') (t':=t') (d':=d') u hok hg hch
end
abbrev XK:=Value->Option Addr->Hp->Prop
abbrev St:=List (Option V)
abbrev VK:=V->Hp->Prop
abbrev TE:=St->Hp->VK->Prop
abbrev TT:=St->Hp->(Bool->Hp->Prop)->Prop
abbrev TA:=St->Hp->(List V->Hp->Prop)->Prop
structure Ends where
 nx:St->Hp->Prop
 rt:VK
 bk:St->Hp->Prop:=fun _ _=>False
 ct:St->Hp->Prop:=fun _ _=>False
abbrev TS:=Ends->St->Hp->Prop
def EP (X:Cx) (pins:List (Addr×Obj)) (σ:St) (Q:VK) (u:Value) (s':Shared):Prop:=∃ v H',Inv X pins σ H' s'/\RelV v u/\Q v H'
def TP (X:Cx) (pins:List (Addr×Obj)) (σ:St) (Q:Bool->Hp->Prop) (b:Bool) (s':Shared):Prop:=∃ H',Inv X pins σ H' s'/\Q b H'
def AP (X:Cx) (pins:List (Addr×Obj)) (σ:St) (Q:List V->Hp->Prop) (us:List Value) (s':Shared):Prop:=∃ vs H',Inv X pins σ H' s'/\Vals vs us/\Q vs H'
def SP (X:Cx) (pins:List (Addr×Obj)) (D:Ends) (f:Flow) (s':Shared):Prop:=
 match f with
 | .next=>∃ σ' H',Inv X pins σ' H' s'/\D.nx σ' H'
 | .brk=>∃ σ' H',Inv X pins σ' H' s'/\D.bk σ' H'
 | .cont=>∃ σ' H',Inv X pins σ' H' s'/\D.ct σ' H'
 | .ret u=>∃ v σ' H',Inv X pins σ' H' s'/\RelV v u/\D.rt v H'
def PE (X:Cx) (e:Expr) (t:TE):Prop:=
 ∀ (pins:List (Addr×Obj)) (s:Shared) (σ:St) (H:Hp) (Q:VK),Inv X pins σ H s->t σ H Q->wpAny (model X.prog X.w) X.A (eval e X.env) (EP X pins σ Q) X.xe s
def PT (X:Cx) (e:Expr) (t:TT):Prop:=
 ∀ (pins:List (Addr×Obj)) (s:Shared) (σ:St) (H:Hp) (Q:Bool->Hp->Prop),Inv X pins σ H s->t σ H Q->wpAny (model X.prog X.w) X.A (isTrue e X.env (eval e X.env)) (TP X pins σ Q) X.xe s
def PW (X:Cx) (e:Expr) (t:TT):Prop:=
 ∀ (whole:Sem Value) (pins:List (Addr×Obj)) (s:Shared) (σ:St) (H:Hp) (Q:Bool->Hp->Prop),Inv X pins σ H s->t σ H Q->wpAny (model X.prog X.w) X.A (isTrue e X.env whole) (TP X pins σ Q) X.xe s
theorem PW.pt {X:Cx} {e:Expr} {t:TT} (h:PW X e t):PT X e t:=h _
def PA (X:Cx) (es:List Expr) (t:TA):Prop:=
 ∀ (pos:Pos) (pins:List (Addr×Obj)) (s:Shared) (σ:St) (H:Hp) (Q:List V->Hp->Prop),Inv X pins σ H s->t σ H Q->wpAny (model X.prog X.w) X.A (spliced (backTo pos (starEach es X.env))) (AP X pins σ Q) X.xe s
def PS (X:Cx) (st:Stmt) (t:TS):Prop:=
 ∀ (pins:List (Addr×Obj)) (s:Shared) (σ:St) (H:Hp) (D:Ends),Inv X pins σ H s->t D σ H->wpAny (model X.prog X.w) X.A (exec st X.env) (SP X pins D) X.xe s
def PSs (X:Cx) (st:List Stmt) (t:TS):Prop:=
 ∀ (pins:List (Addr×Obj)) (s:Shared) (σ:St) (H:Hp) (D:Ends),Inv X pins σ H s->t D σ H->wpAny (model X.prog X.w) X.A (execs st X.env) (SP X pins D) X.xe s
theorem thn {α:Type} {t:Sem α} {Q Q':α->Shared->Prop} {M:Model} {A:Around} {E:Value->Shared->Prop} {s:Shared} (h:wpAny M A t Q E s) (hQ:∀ a s,Q a s->Q' a s):wpAny M A t Q' E s:=wpAny_mono h hQ fun _ _ x=>x
end L2
namespace L2
open PySem PySem.Spec PyProof.Rows
section
variable {X:Cx}
def tVar (i:Nat):TE:=fun σ H Q=>∃ v,σ[i]?=some (some v)/\Q v H
def tC (v:V):TE:=fun _ H Q=>Q v H
theorem pe_var {i:Nat} {x:Str} {pos:Pos} (hN:X.N[i]?=some x) (hv:Vis X.env.scope x) (hd:(x == ("__debug__" : Str))=false:=by decide) (hcd:(x == ("__classdict__" : Str))=false:=by decide):PE X (.Name x pos) (tVar i):=by
 intro pins s σ H Q I h
 obtain⟨v,e,h⟩:=h
 obtain⟨m,hn,hl⟩:=I.loc
 obtain⟨u,r,l⟩:=hl i x v hN e hv
 have fin:EP X pins σ Q u s:=⟨v,H,I,r,h⟩
 rcases l with ⟨hk,hm⟩ | ⟨hk,c,hc,hcell⟩
 ·exact wpAny_Name (wpAny_loadName_local I.ok.kind hk hn hm fin) hd
 ·rcases hk with hk | hk
  ·exact wpAny_Name (wpAny_loadName_cell I.ok.kind hk hc hcell fin) hd
  ·exact wpAny_Name (wpAny_loadName_free I.ok.kind hk hc hcell fin hcd) hd
theorem pe_int {i j pos}:PE X (.Constant (.int i) j pos) (tC (.int i)):=fun _ _ _ H _ I h=>wpAny_Constant_int ⟨.int i,H,I.tok _,⟨_,rfl⟩,h⟩
theorem pe_bl {b j pos}:PE X (.Constant (.bool b) j pos) (tC (.bl b)):=fun _ _ _ H _ I h=>Constant_bool ⟨.bl b,H,I,rfl,h⟩
def Gl (X:Cx) (x:Str):Prop:=X.env.kindOf x=some .globalImplicit
theorem ld_glob {E:Value->Shared->Prop} {pins:List (Addr×Obj)} {s:Shared} {σ:St} {H:Hp} {x:Str} {u:Value} {pos:Pos} {Q:Value->Shared->Prop} (I:Inv X pins σ H s) (hg:Gl X x) (hm:X.mg x=some u) (h:Q u s)
  (hd:(x == ("__debug__" : Str))=false:=by decide):wpAny (model X.prog X.w) X.A (eval (.Name x pos) X.env) Q E s:=
 Calls.Name_function_global I.ok.kind hg (Calls.loadGlobal_global (by rw[I.ok.glob]; exact I.mod.glob.keeps I.bk) hm h) hd
theorem ld_blt {E:Value->Shared->Prop} {pins:List (Addr×Obj)} {s:Shared} {σ:St} {H:Hp} {x:Str} {u:Value} {pos:Pos} {Q:Value->Shared->Prop} (I:Inv X pins σ H s) (hg:Gl X x) (hm:X.mg x=none) (hv:bootBuiltins x=some u) (h:Q u s)
  (hn:x ≠ "__name__" := by decide) (hd:(x == ("__debug__" : Str))=false:=by decide):wpAny (model X.prog X.w) X.A (eval (.Name x pos) X.env) Q E s:=by
 obtain⟨mb,h1,h2⟩:=I.mod.blt
 exact Calls.Name_function_global I.ok.kind hg (Calls.loadGlobal_builtin (by rw[I.ok.glob]; exact I.mod.glob.keeps I.bk) hm (by rw[I.ok.blt]; exact h1.keeps I.bk) ((h2 x hn).trans hv) h) hd
theorem pe_glob {x:Str} {v:V} {u:Value} {pos:Pos} (hg:Gl X x) (hm:X.mg x=some u) (r:RelV v u) (hd:(x == ("__debug__" : Str))=false:=by decide):PE X (.Name x pos) (tC v):=
 fun _ _ _ H _ I h=>ld_glob I hg hm ⟨v,H,I,r,h⟩ hd
theorem pe_bltn {x:Str} {v:V} {u:Value} {pos:Pos} (hg:Gl X x) (hm:X.mg x=none) (hv:bootBuiltins x=some u) (r:RelV v u) (hn:x ≠ "__name__" := by decide) (hd:(x == ("__debug__" : Str))=false:=by decide):PE X (.Name x pos) (tC v):=
 fun _ _ _ H _ I h=>ld_blt I hg hm hv ⟨v,H,I,r,h⟩ hn hd
variable {a b:Expr} {ta tb:TE} {pos:Pos}
def PC (X:Cx) (op:CmpOp) (a b:Expr) (t:TE):Prop:=
 ∀ (pins:List (Addr×Obj)) (s:Shared) (σ:St) (H:Hp) (Q:VK),Inv X pins σ H s->t σ H Q ->
  wpAny (model X.prog X.w) X.A (eval a X.env) (fun v s₁=>wpAny (model X.prog X.w) X.A (eval b X.env) (fun u s₂=>wpAny (model X.prog X.w) X.A (compareOp op v u) (EP X pins σ Q) X.xe s₂) X.xe s₁) X.xe s
def tB (t:TE):TT:=fun σ H Q=>t σ H fun x H1=>∃ c,x=.bl c/\Q c H1
theorem pt_cmp {op:CmpOp} {t:TE} (h:PC X op a b t) (h1:behindInMarks op b=false:=by first | exact nobehind _ (by decide) (by decide) | rfl):PT X (.Compare a [op] [b] pos) (tB t):=by
 intro pins s σ H Q I hw
 refine wpAny_isTrue_Compare1 (thn (h pins s σ H _ I hw) fun v s1 h1=>thn h1 fun u s2 h2=>thn h2 fun c s3 ⟨x,H1,I1,r1,q1⟩=>?_) h1
 obtain⟨d,rfl,q⟩:=q1
 cases r1
 exact wpAny_truthy_bool ⟨H1,I1,q⟩
theorem pt_val {e:Expr} {t:TE} (h:PE X e t) (he:∀ whole,isTrue e X.env whole=(do let v ← whole; standAt e.pos; holding [v] (truthy v)):=by intro _; rfl):PT X e (tB t):=by
 intro pins s σ H Q I hw
 refine isTrue_plain (thn (h pins s σ H _ I hw) fun v s1 ⟨x,H1,I1,r1,q1⟩=>?_) (he _)
 obtain⟨d,rfl,q⟩:=q1
 cases r1
 exact wpAny_truthy_bool ⟨H1,I1,q⟩
variable {tA tB':TT} {rest:List Expr}
def tAnd (t u:TT):TT:=fun σ H Q=>t σ H fun c H1=>if c=true then u σ H1 Q else Q false H1
def tOr (t u:TT):TT:=fun σ H Q=>t σ H fun c H1=>if c=true then Q true H1 else u σ H1 Q
def tNot (t:TT):TT:=fun σ H Q=>t σ H fun c H1=>Q (!c) H1
theorem pw_and1 (ha:PT X a tA):PW X (.BoolOp .And [a] pos) tA:=by
 intro wh pins s σ H Q I h
 refine isTrue_and (thn (ha pins s σ H Q I h) fun c s1 e=>?_)
 cases c with
 | true=>exact isTrue_and_nil e
 | false=>exact e
theorem pw_or1 (ha:PT X a tA):PW X (.BoolOp .Or [a] pos) tA:=by
 intro wh pins s σ H Q I h
 refine isTrue_or (thn (ha pins s σ H Q I h) fun c s1 e=>?_)
 cases c with
 | false=>exact isTrue_or_nil e
 | true=>exact e
theorem pw_and (ha:PT X a tA) (hb:PW X (.BoolOp .And (b::rest) pos) tB'):PW X (.BoolOp .And (a::b::rest) pos) (tAnd tA tB'):=by
 intro wh pins s σ H Q I h
 refine isTrue_and (thn (ha pins s σ H _ I h) fun c s1 ⟨H1,I1,q1⟩=>?_)
 cases c with
 | true=>exact hb wh pins s1 σ H1 Q I1 q1
 | false=>exact⟨H1,I1,q1⟩
theorem pw_or (ha:PT X a tA) (hb:PW X (.BoolOp .Or (b::rest) pos) tB'):PW X (.BoolOp .Or (a::b::rest) pos) (tOr tA tB'):=by
 intro wh pins s σ H Q I h
 refine isTrue_or (thn (ha pins s σ H _ I h) fun c s1 ⟨H1,I1,q1⟩=>?_)
 cases c with
 | true=>exact⟨H1,I1,q1⟩
 | false=>exact hb wh pins s1 σ H1 Q I1 q1
theorem pt_not (ha:PT X a tA):PT X (.UnaryOp .Not a pos) (tNot tA):=by
 intro pins s σ H Q I h
 exact isTrue_not (ha pins s σ H (fun c H1=>Q (!c) H1) I h)
def tAndV (ta tb:TE):TE:=fun σ H Q=>ta σ H fun x H1=>∃ c,x=.bl c/\if c=true then tb σ H1 Q else Q (.bl false) H1
def tNotV (ta:TE):TE:=fun σ H Q=>ta σ H fun x H1=>∃ c,x=.bl c/\Q (.bl (!c)) H1
theorem pe_one {op} {t:TE} (h:PE X a t):PE X (.BoolOp op [a] pos) t:=fun pins s σ H Q I hw=>BoolOp_one (h pins s σ H Q I hw)
theorem pe_and (ha:PE X a ta) (hb:PE X (.BoolOp .And (b::rest) pos) tb):PE X (.BoolOp .And (a::b::rest) pos) (tAndV ta tb):=by
 intro pins s σ H Q I h
 refine BoolOp_and (thn (ha pins s σ H _ I h) fun v s1 ⟨x,H1,I1,r1,q1⟩=>?_)
 obtain⟨c,rfl,q1⟩:=q1
 cases r1
 refine wpAny_truthy_bool ?_
 cases c with
 | true=>exact hb pins s1 σ H1 Q I1 q1
 | false=>exact⟨.bl false,H1,I1,rfl,q1⟩
theorem pe_not (ha:PE X a ta):PE X (.UnaryOp .Not a pos) (tNotV ta):=by
 intro pins s σ H Q I h
 refine UnaryOp_ (thn (ha pins s σ H _ I h) fun v s1 ⟨x,H1,I1,r1,q1⟩=>?_)
 obtain⟨c,rfl,q1⟩:=q1
 cases r1
 exact not_of (wpAny_truthy_bool ⟨.bl (!c),H1,I1,rfl,q1⟩)
end
end L2
namespace L2
open PySem PySem.Spec PyProof.Rows
def SqL (K:PySem.W.Frag) (H:Hp) (a:Addr) (xs:List V):Prop:=
 Rd H a (.lst xs) \/
  ∃ (o:Obj) (its:Array Value) (n:Nat),K.lookup a=some o/\o.cls=.type "list" /\ o.dict=none/\o.data=.seq its n/\its.size<=sizeLine/\Vals xs its.toList
def SqT (K:PySem.W.Frag) (H:Hp) (a:Addr) (xs:List V):Prop:=
 Rd H a (.tup xs) \/
  ∃ (o:Obj) (its:Array Value) (n:Nat),K.lookup a=some o/\o.cls=.type "tuple" /\ o.data=.seq its n/\its.size<=sizeLine/\Vals xs its.toList
def absV:Value->Option V
 | .none=>some .non
 | .bool b=>some (.bl b)
 | .int i _=>some (.int i)
 | .str x _=>some (.str x)
 | .bytes b _=>some (.byt b)
 | .float b _=>some (.flt b)
 | .ref a=>some (.ref a)
 | .type n=>some (.ty n)
 | _=>none
theorem RelV.abs {x:V} {u:Value} (r:RelV x u):absV u=some x:=by
 cases x with
 | non=>cases r; rfl
 | bl _=>cases r; rfl
 | int _=>obtain⟨t,rfl⟩:=r; rfl
 | str _=>obtain⟨t,rfl⟩:=r; rfl
 | byt _=>obtain⟨t,rfl⟩:=r; rfl
 | flt _=>obtain⟨t,rfl⟩:=r; rfl
 | ref _=>cases r; rfl
 | ty _=>cases r; rfl
theorem RelV.inj {x y:V} {u:Value} (r:RelV x u) (q:RelV y u):x=y:=Option.some.inj (r.abs.symm.trans q.abs)
theorem Vals.inj:∀ {xs ys:List V} {us:List Value},Vals xs us->Vals ys us->xs=ys
 | _,_,_,.nil,.nil=>rfl
 | _,_,_,.cons r t,.cons r' t'=>by rw[r.inj r',Vals.inj t t']
section
variable {X:Cx} {pins:List (Addr×Obj)} {σ:St} {H:Hp} {s:Shared} {a:Addr} {xs ys:List V}
theorem SqL.of {K:PySem.W.Frag} (h:H a=some (.lst xs)):SqL K H a xs:=.inl (.inl h)
theorem SqT.of {K:PySem.W.Frag} (h:H a=some (.tup xs)):SqT K H a xs:=.inl (.inl h)
theorem Inv.list (I:Inv X pins σ H s) (h:SqL X.K H a xs):∃ its:List Value,Vals xs its/\PlainL s.heap a its.toArray/\xs.length<=sizeLine:=by
 rcases h with h | ⟨o,its,n,hk,hc,hd,hs,hz,r⟩
 ·obtain⟨z,its,n,r,e⟩:=h.ok I.hok
  exact⟨its,r,⟨_,n,e,rfl,rfl,rfl⟩,z⟩
 ·refine⟨its.toList,r,⟨o,n,I.kIn a o hk,hc,hd,by simpa using hs⟩,?_⟩
  have e:=r.length
  simp only[Array.length_toList] at e
  omega
theorem Inv.tuple (I:Inv X pins σ H s) (h:SqT X.K H a xs):∃ its:List Value,Vals xs its/\IsTup s.heap a its.toArray/\xs.length<=sizeLine:=by
 rcases h with h | ⟨o,its,n,hk,hc,hs,hz,r⟩
 ·obtain⟨z,its,r,p⟩:=h.ok I.hok
  exact⟨its,r,p,z⟩
 ·refine⟨its.toList,r,⟨o,I.kIn a o hk,hc,n,by simpa using hs⟩,?_⟩
  have e:=r.length
  simp only[Array.length_toList] at e
  omega
theorem Inv.list_inj (I:Inv X pins σ H s) (h:SqL X.K H a xs) (h':SqL X.K H a ys):xs=ys:=by
 obtain⟨its,r,⟨o,n,e,_,_,d⟩,_⟩:=I.list h
 obtain⟨its',r',⟨o',n',e',_,_,d'⟩,_⟩:=I.list h'
 rw[e] at e'; cases e'
 rw[d] at d'
 injection d' with d1 _
 have:its=its':=by simpa using congrArg Array.toList d1
 subst this
 exact r.inj r'
end
abbrev Cx.wish (X:Cx) (E:Value->Shared->Prop):Cx:={ X with xe:=E }
abbrev Cx.nox (X:Cx):Cx:=X.wish fun _ _=>False
theorem Cx.Ok.wish {X:Cx} (ok:X.Ok) (E:Value->Shared->Prop):(X.wish E).Ok:=
 ⟨ok.mod,ok.kind,ok.glob,ok.blt,ok.above,ok.inj,ok.has,ok.cab,ok.hd,ok.frames,ok.stk,ok.exf,ok.bs,ok.bsz,ok.noex,ok.exfs,ok.funs,ok.frf⟩
theorem Cx.Ok.unwish {X:Cx} {E:Value->Shared->Prop} (ok:(X.wish E).Ok):X.Ok:=
 ⟨ok.mod,ok.kind,ok.glob,ok.blt,ok.above,ok.inj,ok.has,ok.cab,ok.hd,ok.frames,ok.stk,ok.exf,ok.bs,ok.bsz,ok.noex,ok.exfs,ok.funs,ok.frf⟩
section
variable {X:Cx} {pins:List (Addr×Obj)} {σ:St} {H:Hp} {s:Shared} {E:Value->Shared->Prop}
theorem Inv.wish (I:Inv X pins σ H s) (E:Value->Shared->Prop):Inv (X.wish E) pins σ H s:=⟨I.ok.wish E,I.os,I.bare,I.base,I.loc,I.cell,I.free,I.freeC,I.pin,I.hok,I.len⟩
theorem Inv.unwish (I:Inv (X.wish E) pins σ H s):Inv X pins σ H s:=⟨I.ok.unwish,I.os,I.bare,I.base,I.loc,I.cell,I.free,I.freeC,I.pin,I.hok,I.len⟩
theorem SP.unwish {D:Ends} {f:Flow} {s':Shared} (h:SP (X.wish E) pins D f s'):SP X pins D f s':=by
 cases f with
 | next=>obtain⟨σ',H',I,q⟩:=h; exact⟨σ',H',I.unwish,q⟩
 | brk=>obtain⟨σ',H',I,q⟩:=h; exact⟨σ',H',I.unwish,q⟩
 | cont=>obtain⟨σ',H',I,q⟩:=h; exact⟨σ',H',I.unwish,q⟩
 | ret u=>obtain⟨v,σ',H',I,r,q⟩:=h; exact⟨v,σ',H',I.unwish,r,q⟩
theorem PSs.nox {st:List Stmt} {t:TS} (h:PSs X.nox st t):PSs X st t:=fun pins s σ H D I hw=>
 wpAny_mono (h pins s σ H D (I.wish _) hw) (fun _ _ q=>q.unwish) fun _ _ z=>False.elim z
end
section
variable {X:Cx} {st:Stmt} {rest:List Stmt} {t u:TS} {e:Expr} {te:TE} {pos:Pos}
def tNext:TS:=fun D σ H=>D.nx σ H
def tSeq (t u:TS):TS:=fun D σ H=>t { D with nx:=u D } σ H
theorem pss_nil:PSs X [] tNext:=fun _ _ σ H _ I h=>wpAny_execs_nil ⟨σ,H,I,h⟩
theorem pss_cons (h1:PS X st t) (h2:PSs X rest u):PSs X (st::rest) (tSeq t u):=by
 intro pins s σ H D I h
 refine wpAny_execs_cons (thn (h1 pins s σ H { D with nx:=u D } I h) fun f s1 q=>?_)
 cases f with
 | next=>
  obtain⟨σ',H',I',q⟩:=q
  exact h2 pins s1 σ' H' D I' q
 | ret v=>exact q
 | brk=>exact q
 | cont=>exact q
theorem pss_one (h1:PS X st t):PSs X [st] t:=by
 intro pins s σ H D I h
 refine wpAny_execs_cons (thn (h1 pins s σ H D I h) fun f s1 q=>?_)
 cases f with
 | next=>exact wpAny_execs_nil q
 | ret v=>exact q
 | brk=>exact q
 | cont=>exact q
theorem Inv.quiet {pins:List (Addr×Obj)} {σ:St} {H:Hp} {s:Shared} (I:Inv X pins σ H s):interactive X.env=false:=by simp[interactive,I.ok.kind]
def tDrop (te:TE):TS:=fun D σ H=>te σ H fun _ H1=>D.nx σ H1
theorem ps_expr (he:PE X e te) (hs:swapsWith e none pos.line X.env=pure false:=by rfl):PS X (.Expr e pos) (tDrop te):=by
 intro pins s σ H D I h
 exact wpAny_Expr_any (thn (he pins s σ H _ I h) fun v s1 ⟨x,H1,I1,r1,q1⟩=>⟨σ,H1,I1,q1⟩) I.quiet hs
def tRet (te:TE):TS:=fun D σ H=>te σ H D.rt
theorem ps_ret (he:PE X e te):PS X (.Return (some e) pos) (tRet te):=by
 intro pins s σ H D I h
 exact wpAny_Return_some (thn (he pins s σ H _ I h) fun v s1 ⟨x,H1,I1,r1,q1⟩=>⟨x,σ,H1,I1,r1,q1⟩)
def tIfS (c:TT) (t u:TS):TS:=fun D σ H=>c σ H fun b H1=>if b=true then t D σ H1 else u D σ H1
theorem ps_if {c:Expr} {a b:List Stmt} {tc:TT} (hc:PT X c tc) (ha:PSs X a t) (hb:PSs X b u):PS X (.If c a b pos) (tIfS tc t u):=by
 intro pins s σ H D I h
 refine wpAny_If (thn (hc pins s σ H _ I h) fun d s1 ⟨H1,I1,q1⟩=>?_)
 cases d with
 | true=>exact ha pins s1 σ H1 D I1 q1
 | false=>exact hb pins s1 σ H1 D I1 q1
end
abbrev TG:=V->St->Hp->(St->Hp->Prop)->Prop
abbrev TGs:=List V->St->Hp->(St->Hp->Prop)->Prop
def PG (X:Cx) (target:Expr) (t:TG):Prop:=
 ∀ (pins:List (Addr×Obj)) (s:Shared) (σ:St) (H:Hp) (v:V) (u:Value) (Q:St->Hp->Prop),Inv X pins σ H s->RelV v u->t v σ H Q ->
  wpAny (model X.prog X.w) X.A (assign target X.env u) (fun _ s'=>∃ σ' H',Inv X pins σ' H' s'/\Q σ' H') X.xe s
abbrev TSet:=V->V->V->Hp->(Hp->Prop)->Prop
def PSet (X:Cx) (t:TSet):Prop:=
 ∀ (pins:List (Addr×Obj)) (s:Shared) (σ:St) (H:Hp) (o i v:V) (ov iv u:Value) (Q:Hp->Prop),Inv X pins σ H s->RelV o ov->RelV i iv->RelV v u->t o i v H Q ->
  wpAny (model X.prog X.w) X.A (setItem ov iv u) (fun _ s'=>∃ H',Inv X pins σ H' s'/\Q H') X.xe s
abbrev TIp:=V->V->Hp->VK->Prop
section
variable {X:Cx} {pos:Pos}
def gName (i:Nat):TG:=fun v σ H Q=>Q (σ.set i (some v)) H
theorem pg_name {i:Nat} {x:Str} (hN:X.N.Nodup) (hi:X.N[i]?=some x) (hx:Loc X.env.scope x) (hf:X.fn x=true\/X.env.scope.names.lookup x=some .local:=by first | exact .inl rfl | exact .inr rfl | assumption):PG X (.Name x pos) (gName i):=by
 intro pins s σ H v u Q I r h
 exact wpAny_assign_Name (store_ok I hN hi hx r (fun s' I'=>⟨_,H,I',h⟩) hf)
def gSub (to ti:TE) (t:TSet):TG:=fun v σ H Q=>to σ H fun o H1=>ti σ H1 fun i H2=>t o i v H2 fun H3=>Q σ H3
theorem pg_sub {o i:Expr} {to ti:TE} {t:TSet} (ho:PE X o to) (hi:PE X i ti) (hs:PSet X t)
  (ha:∀ v,assign (.Subscript o i pos) X.env v=(do
   let ov ← holding [v] (eval o X.env)
   let iv ← holding [v,ov] (eval i X.env)
   standAt pos
   holding [v,ov,iv] (setItem ov iv v)
   release [v,ov,iv] []):=by intro _; rfl):PG X (.Subscript o i pos) (gSub to ti t):=by
 intro pins s σ H v u Q I r h
 rw[ha]
 refine wpAny_bind (wpAny_holding (thn (ho pins s σ H _ I h) fun ov s1 ⟨x,H1,I1,r1,q1⟩=>?_))
 refine wpAny_bind (wpAny_holding (thn (hi pins s1 σ H1 _ I1 q1) fun iv s2 ⟨y,H2,I2,r2,q2⟩=>?_))
 refine wpAny_bind (wpAny_standAt (wpAny_bind (wpAny_holding (thn (hs pins s2 σ H2 x y v ov iv u _ I2 r1 r2 r q2) fun _ s3 ⟨H3,I3,q3⟩=>?_))))
 exact wpAny_release ⟨σ,H3,I3,q3⟩
def tAsg (te:TE) (g:TG):TS:=fun D σ H=>te σ H fun x H1=>g x σ H1 D.nx
theorem ps_asg {tg e:Expr} {te:TE} {g:TG} (he:PE X e te) (hg:PG X tg g) (hs:swapsWithSole [tg] e pos.line X.env=pure false:=by rfl) (hw:swappedStores [tg] e X.env=pure none:=by rfl)
  (h1:(assignEach [tg] X.env).map (·.2)=[assign tg X.env]:=by rfl):PS X (.Assign [tg] e pos) (tAsg te g):=by
 intro pins s σ H D I h
 refine wpAny_Assign_stores (thn (he pins s σ H _ I h) fun v s1 ⟨x,H1,I1,r1,q1⟩=>?_) hs hw
 rw[h1]
 exact thn (hg pins s1 σ H1 x v _ I1 r1 q1) fun _ s2 q=>q
theorem ps_set {i:Nat} {x:Str} {e:Expr} {te:TE} {pos':Pos} (hN:X.N.Nodup) (hi:X.N[i]?=some x) (hx:Loc X.env.scope x) (he:PE X e te) (hs:swapsWith e (some (.Name x pos')) pos.line X.env=pure false:=by rfl) (hf:X.fn x=true\/X.env.scope.names.lookup x=some .local:=by first | exact .inl rfl | exact .inr rfl | assumption) :
  PS X (.Assign [.Name x pos'] e pos) (tAsg te (gName i)):=by
 intro pins s σ H D I h
 refine wpAny_Assign_Name (thn (he pins s σ H _ I h) fun v s1 ⟨y,H1,I1,r1,q1⟩=>?_) hs
 exact store_ok I1 hN hi hx r1 (fun s2 I2=>⟨_,H1,I2,q1⟩) hf
end
section
variable {X:Cx} {pos:Pos}
end
structure It where
 go:Nat->Hp->Prop
 yld:Nat->Hp->V->Hp->Prop
 stop:Nat->Hp->Prop
def FpOk (X:Cx) (pins:List (Addr×Obj)) (H:Hp) (b:Addr):Prop:=
 H b=none/\b≠X.env.locals/\b∉X.fs/\(b∈X.ex\/X.s₀.heap.objs.size<=b)/\(∀ x c,X.env.cells.lookup x=some c->c≠b)/\∀ p∈X.pn++pins,p.1≠b
theorem Inv.fpOk {X:Cx} {pins:List (Addr×Obj)} {σ:St} {H H':Hp} {s:Shared} {b:Addr} (I:Inv X pins σ H s) (hb:s.heap.objs.size<=b) (hn:H' b=none):FpOk X pins H' b:=by
 refine⟨hn,Nat.ne_of_gt (Nat.lt_of_lt_of_le I.lt hb),I.nofs hb,.inr (Nat.le_trans I.sz hb),fun x c e z=>?_,fun p hp z=>?_⟩
 ·obtain⟨v,q⟩:=I.cell x c e
  exact absurd (Nat.lt_of_lt_of_le q.lt (by rw[z]; exact hb)) (Nat.lt_irrefl _)
 ·exact absurd (Nat.lt_of_lt_of_le (Heap.lt_size (I.pin p hp).1) (by rw[z]; exact hb)) (Nat.lt_irrefl _)
structure Turn (P:Program) (w:World) (K:PySem.W.Frag) (tg:Expr) (J:It) (fp:List Addr) (it:Addr) (tn:Nat->Heap->Prop):Prop where
 mem:it∈fp
 obj:∀ i h,tn i h->∀ b∈fp,∃ o,h.get? b=some o/\∀ v,o.data≠.cell v
 keep:∀ i h h',tn i h->(∀ b∈fp,∀ o,h.get? b=some o->h'.get? b=some o)->tn i h'
 item:∀ (X:Cx),X.prog=P->X.w=w->X.K=K->X.calm=true->∀ (i:Nat) (pins:List (Addr×Obj)) (s:Shared) (σ:St) (H:Hp) (E:Value->Shared->Prop),Inv X pins σ H s->(∀ b∈fp,FpOk X pins H b)->tn i s.heap->J.go i H ->
  wpAny (model P w) X.A (pyNext (.ref it)) (fun r s1=>∃ u,r=some u /\
   wpAny (model P w) X.A (letOwnedTupleGo tg (.ref it) u) (fun _ s2=>∃ x H',Inv X pins σ H' s2/\RelV x u/\J.yld i H x H'/\tn (i+1) s2.heap/\∀ b∈fp,H' b=none) E s1) E s
 done:∀ (X:Cx),X.prog=P->X.w=w->X.K=K->X.calm=true->∀ (i:Nat) (pins:List (Addr×Obj)) (s:Shared) (σ:St) (H:Hp) (E:Value->Shared->Prop),Inv X pins σ H s->(∀ b∈fp,FpOk X pins H b)->tn i s.heap->J.stop i H ->
  wpAny (model P w) X.A (pyNext (.ref it)) (fun r s1=>r=none/\Inv X pins σ H s1) E s
 self:∀ (A:Around) (i:Nat) (s:Shared) (Q:Value->Shared->Prop) (E:Value->Shared->Prop),tn i s.heap->Q (.ref it) s->wpAny (model P w) A (pyIter (.ref it)) Q E s
abbrev TI:=St->Hp->(It->Hp->Prop)->Prop
def PIE (X:Cx) (pins:List (Addr×Obj)) (σ:St) (tg:Expr) (R:It->Hp->Prop) (itv:Value) (s2:Shared):Prop:=
 ∃ (it:Addr) (fp:List Addr) (tn:Nat->Heap->Prop) (J:It) (H':Hp),itv=.ref it/\Inv X pins σ H' s2/\Turn X.prog X.w X.K tg J fp it tn/\tn 0 s2.heap/\(∀ b∈fp,FpOk X pins H' b)/\R J H'
def PI (X:Cx) (tg iter:Expr) (wi:TI):Prop:=
 ∀ (pins:List (Addr×Obj)) (s:Shared) (σ:St) (H:Hp) (R:It->Hp->Prop),Inv X pins σ H s->wi σ H R ->
  wpAny (model X.prog X.w) X.A (eval iter X.env) (fun v s1=>wpAny (model X.prog X.w) X.A (pyIter v) (PIE X pins σ tg R) X.xe s1) X.xe s
theorem go_of {M:Model} {A:Around} {E:Value->Shared->Prop} {s:Shared} {tg:Expr} {it:Addr} {u:Value} {o:Obj} {n:String} {vs:Array Value} {Q:Unit->Shared->Prop} (ho:s.heap.get? it=some o) (hc:o.cls=.type n) (hd:o.data=.fields vs)
  (hn:["enumerate", "zip", "dict_itemiterator", "dict_reverseitemiterator", "odict_iterator", "itertools.zip_longest", "itertools.pairwise"].contains n=false) (hQ:Q () s):wpAny M A (letOwnedTupleGo tg (.ref it) u) Q E s:=by
 unfold letOwnedTupleGo
 cases tg <;> first
  | exact wpAny_pure hQ
  | (cases u <;> first
    | exact wpAny_pure hQ
    | (refine wpAny_bind (wpAny_load ho ?_)
       rw[hc,hd]
       show wpAny M A (if (["enumerate", "zip", "dict_itemiterator", "dict_reverseitemiterator", "odict_iterator", "itertools.zip_longest", "itertools.pairwise"].contains n&&vs[0]? == some (rawInt _))=true then _ else _) Q E s
       rw[if_neg (by intro h; rw[hn,Bool.false_and] at h; cases h)]
       exact wpAny_pure hQ))
def Itl (K:PySem.W.Frag) (a:Addr):It:=
 ⟨fun i H=>∃ xs x,SqL K H a xs/\xs[i]?=some x,fun i H x H'=>H'=H/\∀ xs,SqL K H a xs->xs[i]?=some x,fun i H=>∃ xs,SqL K H a xs/\xs.length<=i⟩
def Itr (lo:Int) (n:Nat):It:=⟨fun i _=>i<n,fun i H x H'=>H'=H/\x=.int (lo+i),fun i _=>n<=i⟩
theorem turn_list {P:Program} {w:World} {K:PySem.W.Frag} {tg:Expr} (a it:Addr):Turn P w K tg (Itl K a) [it] it (fun i h=>h.IsListIter it a i) where
 mem:=by simp
 obj:=fun i h st b hb=>by
  have e:b=it:=by simpa using hb
  subst e
  obtain⟨o,e,c,d⟩:=st
  exact⟨o,e,fun v z=>by rw[d] at z; cases z⟩
 keep:=fun i h h' st k=>st.at fun o e=>k it (by simp) o e
 item:=by
  intro X hP hw hK hc i pins s σ H E I hf st hg
  subst hP hw hK
  obtain⟨xs,x,hq,hx⟩:=hg
  obtain⟨its,rv,p,hz⟩:=I.list hq
  obtain⟨u,hu,ru⟩:=rv.get hx
  obtain⟨f0,f1,f2,f3,f4,f5⟩:=hf it (by simp)
  refine wpAny_pyNext_list_item st p.isList (x:=u) (by simpa using hu) fun h' st' sb=>?_
  have I1:Inv X pins σ H { s with heap:=h' }:=I.turned (t':=s.toks) (fun b o hb e=>(sb.2 b hb).trans e) f0 f1 f3 f4 f5
  obtain⟨o,e,c,d⟩:=id st'
  exact⟨u,rfl,go_of (s:={ s with heap:=h' }) e c d (by decide) ⟨x,H,I1,ru,⟨rfl,fun ys hy=>by rw[I.list_inj hy hq]; exact hx⟩,st',fun b hb=>(hf b hb).1⟩⟩
 done:=by
  intro X hP hw hK hc i pins s σ H E I hf st hg
  subst hP hw hK
  obtain⟨xs,hq,hx⟩:=hg
  obtain⟨its,rv,p,hz⟩:=I.list hq
  obtain⟨f0,f1,f2,f3,f4,f5⟩:=hf it (by simp)
  have hl:=rv.length
  exact wpAny_pyNext_list_end (I.ok.hd hc) st p.isList (by simp; omega) fun h' eb=>⟨rfl,I.turned (t':=s.toks) (fun b o hb e=>eb b o hb e) f0 f1 f3 f4 f5⟩
 self:=fun _ _ _ _ _ st h=>wpAny_pyIter_listiter st h
theorem turn_range {P:Program} {w:World} {K:PySem.W.Frag} {tg:Expr} (it:Addr) (lo:Int) (n:Nat):Turn P w K tg (Itr lo n) [it] it (fun i h=>IsRangeIter h it (lo+(i:Nat)*1) ((n:Int)-(i:Nat)) 1) where
 mem:=by simp
 obj:=fun i h st b hb=>by
  have e:b=it:=by simpa using hb
  subst e
  exact⟨_,st,fun v z=>by
   have z':Data.fields _=Data.cell v:=z
   cases z'⟩
 keep:=fun i h h' st k=>k it (by simp) _ st
 item:=by
  intro X hP hw hK hc i pins s σ H E I hf st hg
  subst hP hw hK
  obtain⟨f0,f1,f2,f3,f4,f5⟩:=hf it (by simp)
  have W:=Walks.range (prog:=X.prog) (w:=X.w) (I.ok.hd hc) it lo 1 n
  refine W.item i s _ _ hg st fun v h' tk hv st' kk=>?_
  obtain⟨t,rfl⟩:=hv
  have I1:Inv X pins σ H { s with heap:=h',toks:=tk }:=I.turned (fun b o hb e=>kk b o (by simpa using hb) e) f0 f1 f3 f4 f5
  refine⟨_,rfl,go_of (s:={ s with heap:=h',toks:=tk }) (n := "range_iterator") st' rfl rfl (by decide) ⟨.int (lo+i),H,I1,⟨t,?_⟩,⟨rfl,rfl⟩,st',fun b hb=>(hf b hb).1⟩⟩
  rw[Int.mul_one]
 done:=by
  intro X hP hw hK hc i pins s σ H E I hf st hg
  subst hP hw hK
  obtain⟨f0,f1,f2,f3,f4,f5⟩:=hf it (by simp)
  exact wpAny_pyNext_range_end (I.ok.hd hc) st (by have:n<=i:=hg; omega) fun h' eb=>⟨rfl,I.turned (t':=s.toks) (fun b o hb e=>eb b o hb e) f0 f1 f3 f4 f5⟩
 self:=fun _ _ _ _ _ st h=>wpAny_pyIter_rangeiter st h
end L2
namespace L2
open PySem PySem.Spec PyProof.Rows
section
variable {X:Cx} {tg:Expr}
def iList (K:PySem.W.Frag) (tl:TE):TI:=fun σ H R=>tl σ H fun x H1=>∃ a,x=.ref a/\(∃ xs,SqL K H1 a xs)/\R (Itl K a) H1
theorem pi_list {l:Expr} {tl:TE} (hl:PE X l tl):PI X tg l (iList X.K tl):=by
 intro pins s σ H R I h
 refine thn (hl pins s σ H _ I h) fun v s1 ⟨x,H1,I1,r1,q1⟩=>?_
 obtain⟨a,e,⟨xs,hq⟩,q⟩:=q1
 subst e
 cases r1
 obtain⟨its,rv,p,hz⟩:=I1.list hq
 refine wpAny_pyIter_list p.isList ?_
 refine⟨s1.heap.objs.size,[s1.heap.objs.size],_,_,H1,rfl,I1.kept (t':=s1.toks) fun b o e=>Heap.get?_push_of_some _ e,turn_list a _,⟨_,Heap.get?_push_size _ rfl,rfl,rfl⟩,fun b hb=>?_,q⟩
 have e:b=s1.heap.objs.size:=by simpa using hb
 subst e
 exact I1.fpOk (Nat.le_refl _) (I1.hok.fresh (Nat.le_refl _))
theorem range_it {pins:List (Addr×Obj)} {σ:St} {H:Hp} {s:Shared} {R:It->Hp->Prop} {E:Value->Shared->Prop} {lo hi:Int} {t u v:Tok} {tk:Nat} (I:Inv X pins σ H s) (h1:-(2 ^ 62)<=lo) (h2:lo<2 ^ 62) (h3:-(2 ^ 62)<=hi) (h4:hi<2 ^ 62)
  (q:R (Itr lo (hi-lo).toNat) H):wpAny (model X.prog X.w) X.A (pyIter (.ref s.heap.objs.size)) (PIE X pins σ tg R) E { s with heap:=s.heap.push { cls:=.type "range",data:=.fields #[.int lo t,.int hi u,.int 1 v] },toks:=tk }:=by
 refine wpAny_pyIter_range (IsRange.new ..) (small_one h1 h2 h3 h4) ?_
 have I1:Inv X pins σ H { s with heap:=s.heap.push { cls:=.type "range",data:=.fields #[.int lo t,.int hi u,.int 1 v] },toks:=tk }:=I.kept fun b o e=>Heap.get?_push_of_some _ e
 refine⟨(s.heap.push { cls:=.type "range",data:=.fields #[.int lo t,.int hi u,.int 1 v] }).objs.size,[(s.heap.push { cls:=.type "range",data:=.fields #[.int lo t,.int hi u,.int 1 v] }).objs.size],_,_,H,rfl,
  I1.kept (t':=tk) fun b o e=>Heap.get?_push_of_some _ e,turn_range _ lo (hi-lo).toNat,?_,fun b hb=>?_,q⟩
 ·have e1:lo+((0:Nat):Int)*1=lo:=by simp
  have e2:(((hi-lo).toNat:Nat):Int)-((0:Nat):Int)=Builtin.Range.rangeSize lo hi 1:=by rw[rangeSize_one]; split <;> omega
  show IsRangeIter _ _ (lo+((0:Nat):Int)*1) ((((hi-lo).toNat:Nat):Int)-((0:Nat):Int)) 1
  rw[e1,e2]
  exact Heap.get?_push_size _ rfl
 ·have e:b=(s.heap.push { cls:=.type "range",data:=.fields #[.int lo t,.int hi u,.int 1 v] }).objs.size:=by simpa using hb
  subst e
  exact I1.fpOk (Nat.le_refl _) (I1.hok.fresh (Nat.le_refl _))
def iRng1 (ta:TA):TI:=fun σ H R=>ta σ H fun vs H1=>∃ j:Int,vs=[.int j] /\ -(2 ^ 62)<=j/\j<2 ^ 62/\R (Itr 0 j.toNat) H1
theorem pi_range1 {a:Expr} {ta:TA} {p pos:Pos} (hg:Gl X "range") (hm:X.mg "range" = none) (ha:PA X [a] ta) (hs:starEach [a] X.env=[(false,eval a X.env)]:=by rfl):PI X tg (.Call (.Name "range" p) [a] [] pos) (iRng1 ta):=by
 intro pins s σ H R I h
 refine Call_ (ld_blt I hg hm boot_range (PyProof.Rows.callWith_type1 (thn (ha pos pins s σ H _ I h) fun us s1 ⟨vs,H1,I1,r1,q1⟩=>?_) hs rfl))
 obtain⟨j,e,q1,q2,q⟩:=q1
 subst e
 cases r1 with
 | cons r rr=>
  cases rr
  obtain⟨t,rfl⟩:=r
  exact call_range_1 (range_it I1 (by omega) (by omega) q1 q2 (by simpa using q))
def tFor (wi:TI) (g:TG) (tb:TS):TS:=fun D σ H=>wi σ H fun J H1=>∃ W:Nat->Nat->St->Hp->Prop,(∃ m,W 0 m σ H1)/\∀ i m σ H,W i m σ H ->
 (J.stop i H/\D.nx σ H)\/(J.go i H/\∃ N:St->Hp->Prop,(∀ σ' H',N σ' H'->∃ m',m'<m/\W (i+1) m' σ' H')/\∀ x H',J.yld i H x H'->g x σ H' fun σ2 H2=>tb { D with nx:=N,ct:=N,bk:=D.nx } σ2 H2)
def pinsAt (fp:List Addr) (h:Heap):List (Addr×Obj):=fp.filterMap fun b=>(h.get? b).map fun o=>(b,o)
theorem mem_pinsAt {fp:List Addr} {h:Heap} {b:Addr} {o:Obj} (hb:b∈fp) (e:h.get? b=some o):(b,o)∈pinsAt fp h:=List.mem_filterMap.mpr ⟨b,hb,by rw[e]; rfl⟩
theorem of_pinsAt {fp:List Addr} {h:Heap} {p:Addr×Obj} (hp:p∈pinsAt fp h):p.1∈fp/\h.get? p.1=some p.2:=by
 obtain⟨b,hb,e⟩:=List.mem_filterMap.mp hp
 cases q:h.get? b with
 | none=>rw[q] at e; cases e
 | some o=>
  rw[q] at e
  have e':(b,o)=p:=Option.some.inj e
  subst e'
  exact⟨hb,q⟩
theorem Inv.pinned {pins:List (Addr×Obj)} {σ:St} {H:Hp} {s:Shared} {fp:List Addr} (I:Inv X pins σ H s) (hf:∀ b∈fp,FpOk X pins H b) (ho:∀ b∈fp,∃ o,s.heap.get? b=some o/\∀ v,o.data≠.cell v):Inv X (pins++pinsAt fp s.heap) σ H s:=
 I.pins_of fun p hp=>(List.mem_append.mp hp).elim (fun z=>I.pin p (List.mem_append_right _ z)) fun z=>by
  obtain⟨hb,e⟩:=of_pinsAt z
  obtain⟨f0,f1,f2,_⟩:=hf p.1 hb
  obtain⟨o,e',d⟩:=ho p.1 hb
  rw[e] at e'; cases e'
  exact⟨e,f0,f1,f2,d⟩
theorem Inv.unpinned {pins pl:List (Addr×Obj)} {σ:St} {H:Hp} {s:Shared} (I:Inv X (pins++pl) σ H s):Inv X pins σ H s:=I.pins_of fun p hp=>I.pin p (List.mem_append_right _ (List.mem_append_left _ hp))
theorem ps_for {iter:Expr} {body:List Stmt} {wi:TI} {g:TG} {tb:TS} {pos:Pos} (hp:PassesOwn (model X.prog X.w) X.A X.env X.xe) (hc:X.calm=true) (hi:PI X tg iter wi) (hg:PG X tg g) (hb:PSs X body tb)
  (hs:∀ x,foldedSetIterable iter X.env x=pure x:=by intro _; rfl):PS X (.For tg iter body [] pos) (tFor wi g tb):=by
 intro pins s σ H D I h
 refine wpAny_For (thn (hi pins s σ H _ I h) fun v s1 h1=>thn h1 fun itv s2 h2=>?_) hs
 obtain⟨it,fp,tn,J,H2,e,I2,T,st2,f2,W,⟨m0,w0⟩,turn⟩:=h2
 subst e
 have stat:∀ {H':Hp},(∀ b∈fp,H' b=none)->∀ b∈fp,FpOk X pins H' b:=fun hn b hb=>⟨hn b hb,(f2 b hb).2⟩
 refine codeAny_forLoop_any (fun n s'=>∃ i σ' H',Inv X pins σ' H' s'/\tn i s'.heap/\(∀ b∈fp,H' b=none)/\W i n σ' H') ?_ m0 ⟨0,σ,H2,I2,st2,fun b hb=>(f2 b hb).1,w0⟩
 rintro n s3 ⟨i,σ3,H3,I3,st3,fr3,w3⟩
 rcases turn i n σ3 H3 w3 with ⟨stop,qn⟩ | ⟨go,N,hN,step⟩
 ·refine wpAny_passesOwn hp (thn (T.done X rfl rfl rfl hc i pins s3 σ3 H3 X.xe I3 (stat fr3) st3 stop) fun r s4 ⟨hr,I4⟩=>?_)
  subst hr
  exact wpAny_execs_nil ⟨σ3,H3,I4,qn⟩
 ·refine wpAny_passesOwn hp (thn (T.item X rfl rfl rfl hc i pins s3 σ3 H3 X.xe I3 (stat fr3) st3 go) fun r s4 ⟨u,hr,h4⟩=>?_)
  subst hr
  refine wpAny_passesOwn hp (thn h4 fun _ s5 ⟨x,H5,I5,r5,y5,st5,fr5⟩=>?_)
  have I5':=I5.pinned (stat fr5) (T.obj _ _ st5)
  refine wpAny_passesOwn hp (thn (hg _ s5 σ3 H5 x u _ I5' r5 (step x H5 y5)) fun _ s6 ⟨σ6,H6,I6,q6⟩=>?_)
  refine wpAny_passesOwn hp (thn (hb _ s6 σ6 H6 _ I6 q6) fun f s7 q7=>?_)
  have again:∀ {σ7:St} {H7:Hp},Inv X (pins++pinsAt fp s5.heap) σ7 H7 s7->N σ7 H7->∃ m,m<n/\∃ i σ' H',Inv X pins σ' H' s7/\tn i s7.heap/\(∀ b∈fp,H' b=none)/\W i m σ' H':=fun {σ7 H7} I7 n7=>by
   obtain⟨m',hm,w7⟩:=hN σ7 H7 n7
   refine⟨m',hm,i+1,σ7,H7,I7.unpinned,T.keep _ _ _ st5 fun b hb o e=>(I7.pin (b,o) (List.mem_append_right _ (List.mem_append_right _ (mem_pinsAt hb e)))).1,fun b hb=>?_,w7⟩
   obtain⟨o,e,d⟩:=T.obj _ _ st5 b hb
   exact (I7.pin (b,o) (List.mem_append_right _ (List.mem_append_right _ (mem_pinsAt hb e)))).2.1
  cases f with
  | next=>obtain⟨σ7,H7,I7,n7⟩:=q7; exact again I7 n7
  | cont=>obtain⟨σ7,H7,I7,n7⟩:=q7; exact again I7 n7
  | brk=>obtain⟨σ7,H7,I7,q7⟩:=q7; exact⟨σ7,H7,I7.unpinned,q7⟩
  | ret v=>obtain⟨x7,σ7,H7,I7,r7,q7⟩:=q7; exact⟨x7,σ7,H7,I7.unpinned,r7,q7⟩
end
theorem for_list {K:PySem.W.Frag} {a:Addr} {xs:List V} {g:TG} {tb:TS} {D:Ends} {σ:St} {H:Hp} (Pv:Nat->St->Hp->Prop) (h0:Pv 0 σ H) (hl:∀ i σ H,i<=xs.length->Pv i σ H->SqL K H a xs)
  (hs:∀ i x σ H,xs[i]?=some x->Pv i σ H->g x σ H fun σ2 H2=>tb { D with nx:=Pv (i+1),ct:=Pv (i+1),bk:=D.nx } σ2 H2) (hd:∀ σ H,Pv xs.length σ H->D.nx σ H) :
  ∃ W:Nat->Nat->St->Hp->Prop,(∃ m,W 0 m σ H)/\∀ i m σ H,W i m σ H ->
   ((Itl K a).stop i H/\D.nx σ H)\/((Itl K a).go i H/\∃ N:St->Hp->Prop,(∀ σ' H',N σ' H'->∃ m',m'<m/\W (i+1) m' σ' H')/\∀ x H',(Itl K a).yld i H x H'->g x σ H' fun σ2 H2=>tb { D with nx:=N,ct:=N,bk:=D.nx } σ2 H2):=by
 refine⟨fun i m σ H=>m=xs.length-i/\i<=xs.length/\Pv i σ H,⟨xs.length,by simp,Nat.zero_le _,h0⟩,?_⟩
 rintro i m σ H ⟨rfl,hi,p⟩
 have q:=hl i σ H hi p
 by_cases hlt:i<xs.length
 ·refine .inr ⟨⟨xs,xs[i],q,by simp[hlt]⟩,Pv (i+1),fun σ' H' p'=>⟨xs.length-(i+1),by omega,rfl,hlt,p'⟩,fun x H' y=>?_⟩
  obtain⟨e,y⟩:=y
  subst e
  exact hs i x σ _ (y xs q) p
 ·have e:i=xs.length:=by omega
  subst e
  exact .inl ⟨⟨xs,q,Nat.le_refl _⟩,hd σ H p⟩
theorem for_range {lo:Int} {n:Nat} {g:TG} {tb:TS} {D:Ends} {σ:St} {H:Hp} (Pv:Nat->St->Hp->Prop) (h0:Pv 0 σ H)
  (hs:∀ i σ H,i<n->Pv i σ H->g (.int (lo+i)) σ H fun σ2 H2=>tb { D with nx:=Pv (i+1),ct:=Pv (i+1),bk:=D.nx } σ2 H2) (hd:∀ σ H,Pv n σ H->D.nx σ H) :
  ∃ W:Nat->Nat->St->Hp->Prop,(∃ m,W 0 m σ H)/\∀ i m σ H,W i m σ H ->
   ((Itr lo n).stop i H/\D.nx σ H)\/((Itr lo n).go i H/\∃ N:St->Hp->Prop,(∀ σ' H',N σ' H'->∃ m',m'<m/\W (i+1) m' σ' H')/\∀ x H',(Itr lo n).yld i H x H'->g x σ H' fun σ2 H2=>tb { D with nx:=N,ct:=N,bk:=D.nx } σ2 H2):=by
 refine⟨fun i m σ H=>m=n-i/\i<=n/\Pv i σ H,⟨n,by simp,Nat.zero_le _,h0⟩,?_⟩
 rintro i m σ H ⟨rfl,hi,p⟩
 by_cases hlt:i<n
 ·refine .inr ⟨hlt,Pv (i+1),fun σ' H' p'=>⟨n-(i+1),by omega,rfl,hlt,p'⟩,fun x H' y=>?_⟩
  obtain⟨e,y⟩:=y
  subst e y
  exact hs i σ _ hlt p
 ·have e:i=n:=by omega
  subst e
  exact .inl ⟨Nat.le_refl _,hd σ H p⟩
end L2
namespace L2
open PySem PySem.Spec PyProof.Rows
abbrev R2:=V->V->Hp->VK->Prop
def OpR (X:Cx) (f:Value->Value->Sem Value) (r:R2):Prop:=
 ∀ (pins:List (Addr×Obj)) (s:Shared) (σ:St) (H:Hp) (x y:V) (v u:Value) (Q:VK),Inv X pins σ H s->RelV x v->RelV y u->r x y H Q ->
  wpAny (model X.prog X.w) X.A (f v u) (EP X pins σ Q) X.xe s
def CallR (X:Cx) (f:Value) (r:List V->Hp->VK->Prop):Prop:=
 ∀ (pins:List (Addr×Obj)) (s:Shared) (σ:St) (H:Hp) (xs:List V) (us:List Value) (Q:VK),Inv X pins σ H s->Vals xs us->r xs H Q ->
  wpAny (model X.prog X.w) X.A (call f us) (EP X pins σ Q) X.xe s
def tOp (r:R2) (ta tb:TE):TE:=fun σ H Q=>ta σ H fun x H1=>tb σ H1 fun y H2=>r x y H2 Q
def rI (C:Int->Int->Prop) (g:Int->Int->V):R2:=fun x y H Q=>∃ i j,x=.int i/\y=.int j/\C i j/\Q (g i j) H
def rI0 (g:Int->Int->V):R2:=fun x y H Q=>∃ i j,x=.int i/\y=.int j/\Q (g i j) H
section
variable {X:Cx} {a b c:Expr} {ta tb tc:TE} {pos:Pos}
theorem binT (ha:PE X a ta) (hb:PE X b tb) {pins:List (Addr×Obj)} {s:Shared} {σ:St} {H:Hp} {R:V->V->Hp->Prop} (I:Inv X pins σ H s)
  (h:ta σ H fun x H1=>tb σ H1 fun y H2=>R x y H2) {Q:Value->Shared->Prop} {f:Value->Value->Sem Value}
  (hf:∀ v u s2 x y H2,Inv X pins σ H2 s2->RelV x v->RelV y u->R x y H2->wpAny (model X.prog X.w) X.A (f v u) Q X.xe s2) :
  wpAny (model X.prog X.w) X.A (eval a X.env) (fun v s₁=>wpAny (model X.prog X.w) X.A (eval b X.env) (fun u s₂=>wpAny (model X.prog X.w) X.A (f v u) Q X.xe s₂) X.xe s₁) X.xe s:=by
 refine thn (ha pins s σ H _ I h) fun v s1 ⟨x,H1,I1,r1,q1⟩=>?_
 refine thn (hb pins s1 σ H1 _ I1 q1) fun u s2 ⟨y,H2,I2,r2,q2⟩=>?_
 exact hf v u s2 x y H2 I2 r1 r2 q2
theorem pe_op {op:Operator} {r:R2} (ho:OpR X (binaryOp op) r) (ha:PE X a ta) (hb:PE X b tb):PE X (.BinOp a op b pos) (tOp r ta tb):=by
 intro pins s σ H Q I h
 exact wpAny_BinOp (binT ha hb I h fun v u s2 x y H2 I2 rx ry q=>ho pins s2 σ H2 x y v u Q I2 rx ry q)
theorem opI {f:Value->Value->Sem Value} {C:Int->Int->Prop} {g:Int->Int->Int}
  (rule:∀ (i j:Int) (t u:Tok) (s:Shared) (Q:Value->Shared->Prop) (E:Value->Shared->Prop),C i j->Q (.int (g i j) s.toks) { s with toks:=s.toks+1 }->wpAny (model X.prog X.w) X.A (f (.int i t) (.int j u)) Q E s) :
  OpR X f (rI C fun i j=>.int (g i j)):=by
 intro pins s σ H x y v u Q I rx ry h
 obtain⟨i,j,rfl,rfl,hc,q⟩:=h
 obtain⟨t,rfl⟩:=rx
 obtain⟨t',rfl⟩:=ry
 exact rule i j t t' s _ _ hc ⟨.int (g i j),H,I.tok _,⟨_,rfl⟩,q⟩
theorem opI0 {f:Value->Value->Sem Value} {g:Int->Int->Int}
  (rule:∀ (i j:Int) (t u:Tok) (s:Shared) (Q:Value->Shared->Prop) (E:Value->Shared->Prop),Q (.int (g i j) s.toks) { s with toks:=s.toks+1 }->wpAny (model X.prog X.w) X.A (f (.int i t) (.int j u)) Q E s) :
  OpR X f (rI0 fun i j=>.int (g i j)):=by
 intro pins s σ H x y v u Q I rx ry h
 obtain⟨i,j,rfl,rfl,q⟩:=h
 obtain⟨t,rfl⟩:=rx
 obtain⟨t',rfl⟩:=ry
 exact rule i j t t' s _ _ ⟨.int (g i j),H,I.tok _,⟨_,rfl⟩,q⟩
theorem opB0 {f:Value->Value->Sem Value} {g:Int->Int->Bool}
  (rule:∀ (i j:Int) (t u:Tok) (s:Shared) (Q:Value->Shared->Prop) (E:Value->Shared->Prop),Q (.bool (g i j)) s->wpAny (model X.prog X.w) X.A (f (.int i t) (.int j u)) Q E s) :
  OpR X f (rI0 fun i j=>.bl (g i j)):=by
 intro pins s σ H x y v u Q I rx ry h
 obtain⟨i,j,rfl,rfl,q⟩:=h
 obtain⟨t,rfl⟩:=rx
 obtain⟨t',rfl⟩:=ry
 exact rule i j t t' s _ _ ⟨.bl (g i j),H,I,rfl,q⟩
def CDiv (i j:Int):Prop:=0<j/\j<1073741824
def CMul (i j:Int):Prop:=(-(2 ^ 64)<i/\i<2 ^ 64)\/(-(2 ^ 64)<j/\j<2 ^ 64)
theorem CMul.ok {i j:Int} (h:CMul i j):IntMulOk i j:=by
 rcases h with ⟨h1,h2⟩ | ⟨h1,h2⟩
 ·exact .of_left (intBits_le_64 h1 h2)
 ·exact .of_right (intBits_le_64 h1 h2)
theorem op_add:OpR X (binaryOp .Add) (rI0 fun i j=>.int (i+j)):=opI0 fun _ _ _ _ _ _ _ q=>add_int q
theorem op_sub:OpR X (binaryOp .Sub) (rI0 fun i j=>.int (i-j)):=opI0 fun _ _ _ _ _ _ _ q=>sub_int q
theorem op_mul:OpR X (binaryOp .Mult) (rI CMul fun i j=>.int (i*j)):=opI fun _ _ _ _ _ _ _ hc q=>mul_int q hc.ok
theorem op_fdiv:OpR X (binaryOp .FloorDiv) (rI CDiv fun i j=>.int (i/j)):=opI fun i j _ _ _ _ _ hc q=>by
 have h1:(0:Int)<j:=hc.1
 have h2:j<1073741824:=hc.2
 exact floordiv_int (by omega) (by rw[Int.fdiv_eq_ediv_of_nonneg i (by omega)]; exact q) (.inl (PyProof.noPylong_small (by omega)))
theorem op_mod:OpR X (binaryOp .Mod) (rI (fun _ j=>0<j) fun i j=>.int (i % j)):=opI fun i j _ _ _ _ _ hc q=>by
 have h1:(0:Int)<j:=hc
 exact mod_int' (by omega) (by rw[Int.fmod_eq_emod_of_nonneg i (by omega)]; exact q)
end
def scal:V->V->Bool
 | .non,.non=>true | .non,.int _=>true | .int _,.non=>true | .non,.bl _=>true | .bl _,.non=>true | .non,.str _=>true | .str _,.non=>true
 | .int _,.int _=>true | .bl _,.bl _=>true | .str _,.str _=>true | .byt _,.byt _=>true
 | .int _,.str _=>true | .str _,.int _=>true | .bl _,.str _=>true | .str _,.bl _=>true
 | _,_=>false
def rEq:R2:=fun x y H Q=>scal x y=true/\Q (.bl (decide (x=y))) H
def rNe:R2:=fun x y H Q=>scal x y=true/\Q (.bl (!decide (x=y))) H
theorem dec_int {i j:Int}:decide (V.int i=V.int j)=(i == j):=by
 rw[Bool.eq_iff_iff]
 simp
theorem dec_bl {i j:Bool}:decide (V.bl i=V.bl j)=(i == j):=by
 rw[Bool.eq_iff_iff]
 simp
theorem dec_str {i j:Str}:decide (V.str i=V.str j)=(i == j):=by
 rw[Bool.eq_iff_iff]
 simp
theorem dec_byt {i j:Array UInt8}:decide (V.byt i=V.byt j)=(i.toList == j.toList):=by
 rw[Bool.eq_iff_iff]
 cases i
 cases j
 simp
section
variable {X:Cx} {a b c:Expr} {ta tb tc:TE} {pos:Pos}
theorem fin_bl {pins:List (Addr×Obj)} {σ:St} {H:Hp} {s:Shared} {Q:VK} {k k':Bool} (I:Inv X pins σ H s) (q:Q (.bl k) H) (e:k=k'):EP X pins σ Q (.bool k') s:=by
 subst e
 exact⟨.bl k,H,I,rfl,q⟩
theorem op_eq:OpR X (compareOp .Eq) rEq:=by
 intro pins s σ H x y v u Q I rx ry h
 obtain⟨hs,q⟩:=h
 cases x with
 | non=>
  cases rx
  cases y with
  | non=>cases ry; exact PySem.EqNone.eq_none_none (fin_bl I q (by simp))
  | bl j=>cases ry; exact PySem.EqNone.eq_none_bool (fin_bl I q (by simp))
  | int j=>obtain⟨t',rfl⟩:=ry; exact PySem.EqNone.eq_none_int (fin_bl I q (by simp))
  | str j=>obtain⟨t',rfl⟩:=ry; exact PySem.EqNone.eq_none_str (fin_bl I q (by simp))
  | _=>exact absurd (show false=true from hs) Bool.false_ne_true
 | bl i=>
  cases rx
  cases y with
  | non=>cases ry; exact PySem.EqNone.eq_bool_none (fin_bl I q (by simp))
  | bl j=>cases ry; exact eq_bool (fin_bl I q dec_bl)
  | str j=>obtain⟨t',rfl⟩:=ry; exact PySem.EqMixed.eq_bool_str (fin_bl I q (by simp))
  | _=>exact absurd (show false=true from hs) Bool.false_ne_true
 | int i=>
  obtain⟨t,rfl⟩:=rx
  cases y with
  | non=>cases ry; exact PySem.EqNone.eq_int_none (fin_bl I q (by simp))
  | int j=>obtain⟨t',rfl⟩:=ry; exact eq_int (fin_bl I q dec_int)
  | str j=>obtain⟨t',rfl⟩:=ry; exact PySem.EqMixed.eq_int_str (fin_bl I q (by simp))
  | _=>exact absurd (show false=true from hs) Bool.false_ne_true
 | str i=>
  obtain⟨t,rfl⟩:=rx
  cases y with
  | non=>cases ry; exact PySem.EqNone.eq_str_none (fin_bl I q (by simp))
  | bl j=>cases ry; exact PySem.EqMixed.eq_str_bool (fin_bl I q (by simp))
  | int j=>obtain⟨t',rfl⟩:=ry; exact PySem.EqMixed.eq_str_int (fin_bl I q (by simp))
  | str j=>obtain⟨t',rfl⟩:=ry; exact eq_str (fin_bl I q dec_str)
  | _=>exact absurd (show false=true from hs) Bool.false_ne_true
 | byt i=>
  obtain⟨t,rfl⟩:=rx
  cases y with
  | byt j=>obtain⟨t',rfl⟩:=ry; exact PySem.W.eq_bytes (fin_bl I q dec_byt)
  | _=>exact absurd (show false=true from hs) Bool.false_ne_true
 | _=>cases y <;> exact absurd (show false=true from hs) Bool.false_ne_true
theorem op_ne:OpR X (compareOp .NotEq) rNe:=by
 intro pins s σ H x y v u Q I rx ry h
 obtain⟨hs,q⟩:=h
 cases x with
 | non=>
  cases rx
  cases y with
  | non=>cases ry; exact PySem.EqNone.ne_none_none (fin_bl I q (by simp))
  | bl j=>cases ry; exact PySem.EqNone.ne_none_bool (fin_bl I q (by simp))
  | int j=>obtain⟨t',rfl⟩:=ry; exact PySem.EqNone.ne_none_int (fin_bl I q (by simp))
  | str j=>obtain⟨t',rfl⟩:=ry; exact PySem.EqNone.ne_none_str (fin_bl I q (by simp))
  | _=>exact absurd (show false=true from hs) Bool.false_ne_true
 | bl i=>
  cases rx
  cases y with
  | non=>cases ry; exact PySem.EqNone.ne_bool_none (fin_bl I q (by simp))
  | bl j=>cases ry; exact ne_bool (fin_bl I q (congrArg not dec_bl))
  | str j=>obtain⟨t',rfl⟩:=ry; exact PySem.EqMixed.ne_bool_str (fin_bl I q (by simp))
  | _=>exact absurd (show false=true from hs) Bool.false_ne_true
 | int i=>
  obtain⟨t,rfl⟩:=rx
  cases y with
  | non=>cases ry; exact PySem.EqNone.ne_int_none (fin_bl I q (by simp))
  | int j=>obtain⟨t',rfl⟩:=ry; exact ne_int (fin_bl I q (congrArg not dec_int))
  | str j=>obtain⟨t',rfl⟩:=ry; exact PySem.EqMixed.ne_int_str (fin_bl I q (by simp))
  | _=>exact absurd (show false=true from hs) Bool.false_ne_true
 | str i=>
  obtain⟨t,rfl⟩:=rx
  cases y with
  | non=>cases ry; exact PySem.EqNone.ne_str_none (fin_bl I q (by simp))
  | bl j=>cases ry; exact PySem.EqMixed.ne_str_bool (fin_bl I q (by simp))
  | int j=>obtain⟨t',rfl⟩:=ry; exact PySem.EqMixed.ne_str_int (fin_bl I q (by simp))
  | str j=>obtain⟨t',rfl⟩:=ry; exact ne_str (fin_bl I q (congrArg not dec_str))
  | _=>exact absurd (show false=true from hs) Bool.false_ne_true
 | byt i=>
  obtain⟨t,rfl⟩:=rx
  cases y with
  | byt j=>obtain⟨t',rfl⟩:=ry; exact PySem.W.ne_bytes (fin_bl I q (congrArg not dec_byt))
  | _=>exact absurd (show false=true from hs) Bool.false_ne_true
 | _=>cases y <;> exact absurd (show false=true from hs) Bool.false_ne_true
theorem op_lt:OpR X (compareOp .Lt) (rI0 fun i j=>.bl (decide (i<j))):=opB0 fun _ _ _ _ _ _ _ q=>lt_int q
theorem op_le:OpR X (compareOp .LtE) (rI0 fun i j=>.bl (decide (i<=j))):=opB0 fun _ _ _ _ _ _ _ q=>le_int q
theorem op_gt:OpR X (compareOp .Gt) (rI0 fun i j=>.bl (decide (j<i))):=opB0 fun _ _ _ _ _ _ _ q=>gt_int q
theorem op_ge:OpR X (compareOp .GtE) (rI0 fun i j=>.bl (decide (j<=i))):=opB0 fun _ _ _ _ _ _ _ q=>ge_int q
theorem nomark (b:Expr) {op:CmpOp} (h:op≠.In:=by decide) (h2:op≠.NotIn:=by decide):behindInMarks op b=false:=by
 have e1:(op == CmpOp.In)=false:=by cases op <;> first | rfl | exact absurd rfl h
 have e2:(op == CmpOp.NotIn)=false:=by cases op <;> first | rfl | exact absurd rfl h2
 cases b <;> simp[behindInMarks,e1,e2]
theorem pe_cmpR {op:CmpOp} {r:R2} (ho:OpR X (compareOp op) r) (ha:PE X a ta) (hb:PE X b tb) (hm:behindInMarks op b=false):PE X (.Compare a [op] [b] pos) (tOp r ta tb):=by
 intro pins s σ H Q I h
 exact wpAny_Compare1 (binT ha hb I h fun v u s2 x y H2 I2 rx ry q=>ho pins s2 σ H2 x y v u Q I2 rx ry q) hm
def tTest (t:TE):TT:=fun σ H Q=>t σ H fun x H'=>∃ k,x=.bl k/\Q k H'
theorem pt_cmpR {op:CmpOp} {r:R2} (ho:OpR X (compareOp op) r) (ha:PE X a ta) (hb:PE X b tb) (hm:behindInMarks op b=false):PT X (.Compare a [op] [b] pos) (tTest (tOp r ta tb)):=by
 intro pins s σ H Q I h
 refine wpAny_isTrue_Compare1 (thn (ha pins s σ H _ I h) fun v s1 ⟨x,H1,I1,r1,q1⟩=>thn (hb pins s1 σ H1 _ I1 q1) fun u s2 ⟨y,H2,I2,r2,q2⟩=>
  thn (ho pins s2 σ H2 x y v u _ I2 r1 r2 q2) fun c s3 ⟨z,H3,I3,r3,k,e,q3⟩=>?_) hm
 subst e
 cases r3
 exact wpAny_truthy_bool ⟨H3,I3,q3⟩
def tChain (r r':R2) (ta tb tc:TE):TE:=fun σ H Q=>ta σ H fun x H1=>tb σ H1 fun y H2=>r x y H2 fun z H3=>∃ k,z=.bl k /\
 (if k=true then tc σ H3 fun w' H4=>r' y w' H4 Q else Q (.bl false) H3)
theorem pt_chain {op op':CmpOp} {r r':R2} (ho:OpR X (compareOp op) r) (ho':OpR X (compareOp op') r') (ha:PE X a ta) (hb:PE X b tb) (hc:PE X c tc)
  (hm:lastMarks [op,op'] [b,c]=false:=by with_unfolding_all rfl):PT X (.Compare a [op,op'] [b,c] pos) (tTest (tChain r r' ta tb tc)):=by
 intro pins s σ H Q I h
 refine isTrue_chain (thn (ha pins s σ H _ I h) fun v s1 ⟨x,H1,I1,r1,q1⟩=>test_link (thn (hb pins s1 σ H1 _ I1 q1) fun u s2 ⟨y,H2,I2,r2,q2⟩=>
  thn (ho pins s2 σ H2 x y v u _ I2 r1 r2 q2) fun d s3 ⟨z,H3,I3,r3,k,e,q3⟩=>?_)) hm
 subst e
 cases r3
 refine wpAny_truthy_bool ?_
 cases k with
 | false=>
  obtain⟨k',e',q'⟩:=q3
  cases e'
  exact ite_ff ⟨H3,I3,q'⟩
 | true=>
  refine ite_tt (test_last (thn (hc pins s3 σ H3 _ I3 q3) fun w' s4 ⟨z',H4,I4,r4,q4⟩=>thn (ho' pins s4 σ H4 y z' u w' _ I4 r2 r4 q4) fun d' s5 ⟨z2,H5,I5,r5,k2,e2,q5⟩=>?_))
  subst e2
  cases r5
  exact wpAny_truthy_bool ⟨H5,I5,q5⟩
theorem line63:(sizeLine:Nat)<2 ^ 63:=by rw[sizeLine_eq]; decide
theorem vals1 {x:V} {us:List Value} (r:Vals [x] us):∃ u,us=[u]/\RelV x u:=by
 cases r with
 | cons r1 r2=>cases r2; exact⟨_,rfl,r1⟩
theorem vals2 {x y:V} {us:List Value} (r:Vals [x,y] us):∃ u w',us=[u,w']/\RelV x u/\RelV y w':=by
 cases r with
 | cons r1 r2=>
  cases r2 with
  | cons r3 r4=>cases r4; exact⟨_,_,rfl,r1,r3⟩
theorem call_max2 (hc:X.calm=true):CallR X (.builtin "max") (fun xs H Q=>∃ i j,xs=[.int i,.int j]/\Q (.int (if j>i then j else i)) H):=by
 intro pins s σ H xs us Q I r h
 obtain⟨i,j,rfl,q⟩:=h
 obtain⟨u,w',rfl,⟨t,rfl⟩,⟨t',rfl⟩⟩:=vals2 r
 refine max_two_ints (I.ok.hd hc) fun h' tk k=>⟨_,H,I.kept k,?_,q⟩
 by_cases hj:j>i
 ·rw[if_pos hj,if_pos hj]; exact⟨_,rfl⟩
 ·rw[if_neg hj,if_neg hj]; exact⟨_,rfl⟩
theorem call_min2 (hc:X.calm=true):CallR X (.builtin "min") (fun xs H Q=>∃ i j,xs=[.int i,.int j]/\Q (.int (if j<i then j else i)) H):=by
 intro pins s σ H xs us Q I r h
 obtain⟨i,j,rfl,q⟩:=h
 obtain⟨u,w',rfl,⟨t,rfl⟩,⟨t',rfl⟩⟩:=vals2 r
 refine min_two_ints (I.ok.hd hc) fun h' tk k=>⟨_,H,I.kept k,?_,q⟩
 by_cases hj:j<i
 ·rw[if_pos hj,if_pos hj]; exact⟨_,rfl⟩
 ·rw[if_neg hj,if_neg hj]; exact⟨_,rfl⟩
end
end L2
namespace L2
open PySem PySem.Spec PyProof.Rows
structure ObjM (h:Heap) (x dx C:Addr) (mA:Str->Option Value):Prop where
 obj:h.get? x=some (PySem.W.instObj C dx)
 ns:h.Ns1 dx mA
 ne:dx≠x
theorem lookIn_ns {h:Heap} {dx:Addr} {mA:Str->Option Value} (n:h.Ns1 dx mA):∃ od,h.get? dx=some od/\∀ name,PySem.W.lookIn name od=some (mA name):=by
 obtain⟨o,es,ep,ho,hd,hk,_,hm⟩:=n
 refine⟨o,ho,fun name=>?_⟩
 have e:=hm name
 unfold nsFind findBy at e
 rw[<-Array.find?_toList] at e
 unfold PySem.W.lookIn
 rw[hd]
 dsimp only
 split
 ·rename_i y q
  rw[q] at e
  exact congrArg some e
 ·rename_i q
  rw[q] at e
  have a:es.toList.any (·.refKey)=false:=by
   rw[List.any_eq_false]
   intro y hy
   obtain⟨z,t,hkey⟩:=hk y (Array.mem_toList_iff.mp hy)
   simp[DictEntry.refKey,hkey]
  have a':¬ es.toList.any (·.refKey)=true:=by rw[a]; exact Bool.false_ne_true
  rw[if_neg a']
  exact congrArg some e
theorem ObjM.look {h:Heap} {x dx C:Addr} {mA:Str->Option Value} (I:ObjM h x dx C mA):∃ od,PySem.W.InstAt h x (PySem.W.instObj C dx) C (some od)/\∀ name,PySem.W.lookIn name od=some (mA name):=
 let ⟨od,ho,hl⟩:=lookIn_ns I.ns
 ⟨od,⟨I.obj,rfl,rfl,ho⟩,hl⟩
section
variable {prog:Program} {w:World} {A:Around} {E:Value->Shared->Prop} {s:Shared} {K:PySem.W.Frag} {x dx C f:Addr} {mA:Str->Option Value} {name:Str} {v:Value}
theorem get_map {expr:Bool} {Q:Value->Shared->Prop} (X:K.In s.heap) (I:ObjM s.heap x dx C mA) (hg:PySem.W.plainGet K C name=true) (hh:PySem.W.hasDictIn K C=true)
  (ha:PySem.W.findIn K (.ref C) name=some none) (hv:mA name=some v) (hv':PySem.W.handedIn v=true) (h:Q v { s with toks:=s.toks+1 }) :
  wpAny (model prog w) A (getAttr (.ref x) name expr) Q E s:=by
 obtain⟨od,J,hl⟩:=I.look
 exact PySem.W.get_value X J (PySem.W.plainGet_of hg).1 (PySem.W.findObj_own hh ha rfl (by rw[hl,hv])) hv' h
theorem get_meth {pl:Sem Bool} {Q:Value×List Value->Shared->Prop} (X:K.In s.heap) (I:ObjM s.heap x dx C mA) (hg:PySem.W.plainGet K C name=true)
  (hf:PySem.W.findIn K (.ref C) name=some (some (.ref f))) (ht:PySem.W.isFn K (.ref f)=true) (hv:mA name=none) (h:Q (.ref f,[.ref x]) s) :
  wpAny (model prog w) A (getMethod (.ref x) name pl) Q E s:=by
 obtain⟨od,J,hl⟩:=I.look
 exact PySem.W.method_fn X J (PySem.W.plainGet_of hg).1 (PySem.W.plainGet_of hg).2 hf (beq_iff_eq.mp ht) (by show (PySem.W.lookIn name od).map (·.isSome)=some false; rw[hl,hv]; rfl) h
theorem set_map {ns:List Str} {Q:Unit->Shared->Prop} (X:K.In s.heap) (I:ObjM s.heap x dx C mA)
  (hs:PySem.W.findIn K (.ref C) "__setattr__" = some (some (.builtin "object.__setattr__"))) (hp:PySem.W.plainOver K C=true) (ht:PySem.W.takerIn K C name=some none) (hh:PySem.W.hasDictIn K C=true)
  (hw:PySem.Within mA ns) (hsz:ns.length<=sizeLine)
  (h:∀ h',ObjM h' x dx C (fun y=>if y=name then some v else mA y)->Heap.SameBut dx s.heap h'->Q () { s with heap:=h',toks:=s.toks+2 }) :
  wpAny (model prog w) A (setAttr (.ref x) name v) Q E s:=by
 obtain⟨od,J,hl⟩:=I.look
 refine PySem.W.set_plain X J hs (PySem.W.osa_open (s:={ s with toks:=s.toks+1 }) (r:=none) X J hp ht fun b=>?_)
 obtain⟨cd,hc,hd'⟩:=PySem.W.any_some hh
 have hx:s.heap.get? x=some ⟨.ref C,some dx,.plain,#[]⟩:=I.obj
 refine wpAny_bind (wpAny_pure (wpAny_bind (wpAny_bind (wpAny_loadPart hx (wpAny_bind (PySem.W.Looks.here (s:={ s with toks:=s.toks+1 }) (PySem.W.looks_clsIn X hc) ?_))))))
 rw[hd']
 refine wpAny_pure (a:=some dx) (wpAny_bind (wpAny_pure (wpAny_bind ?_)))
 refine wpAny_nsSet1 (s:={ s with toks:=s.toks+1 }) I.ns fun h' hn2 hs2=>?_
 obtain⟨oD,esD,epD,hoD,hdD,hcD⟩:=hn2.count (PySem.Within.cons name v hw)
 refine wpAny_bind (wpAny_lookBehind hoD (by rw[hdD]; exact pastItsLine_dict (Nat.le_trans hcD (by rw[List.length_cons]; omega))) ?_)
 exact wpAny_pure (h _ ⟨(hs2.2 _ (Ne.symm I.ne)).trans I.obj,hn2,I.ne⟩ hs2)
theorem make_map {R:Result->Shared->Prop} {vs:List Value} {kw:List (Str×Value)} (X:K.In s.heap) (hm:PySem.W.makesIn K C=true)
  (hi:PySem.W.findIn K (.ref C) "__init__" = some (some (.ref f))) (hf:PySem.W.typeIn K (.ref f)=some (.type "function"))
  (h:codeAny (model prog w) (A.under (.builtin "type.__call__" ⟨.ref C::vs,kw⟩)) (.call (.ref f) ⟨.ref (s.heap.objs.size+1)::vs,kw⟩) (PySem.W.InitBack (s.heap.objs.size+1) R)
   { s with heap:=(s.heap.push PySem.W.emptyDict).push (PySem.W.instObj C s.heap.objs.size) }) :
  codeAny (model prog w) A (.call (.ref C) ⟨vs,kw⟩) R s:=by
 obtain⟨hh,g,d,t,os⟩:=s
 exact PySem.W.make_core (PySem.W.makes_of X hm) (PySem.W.looks_findIn X hi) (fun self=>PySem.W.bind_fn X self hf) (.inl rfl) h
end
def putF (f:Str) (v:V):List (Str×V)->List (Str×V)
 | []=>[(f,v)]
 | (g,x)::r=>if g=f then (g,v)::r else (g,x)::putF f v r
theorem lookup_putF (f g:Str) (v:V):∀ fs:List (Str×V),(putF f v fs).lookup g=if g=f then some v else fs.lookup g
 | []=>by
  show List.lookup g [(f,v)]=_
  by_cases h:g=f
  ·have hb:(g == f)=true:=beq_iff_eq.mpr h
   simp only[List.lookup,hb,if_pos h]
  ·have hb:(g == f)=false:=beq_eq_false_iff_ne.mpr h
   simp only[List.lookup,hb,if_neg h]
 | (k,x)::r=>by
  have ih:=lookup_putF f g v r
  rw[show putF f v ((k,x)::r)=(if k=f then (k,v)::r else (k,x)::putF f v r) from rfl]
  by_cases hk:k=f
  ·rw[if_pos hk]
   by_cases h:g=k
   ·have hb:(g == k)=true:=beq_iff_eq.mpr h
    simp only[List.lookup,hb,if_pos (h.trans hk)]
   ·have hb:(g == k)=false:=beq_eq_false_iff_ne.mpr h
    simp only[List.lookup,hb,if_neg (fun e:g=f=>h (e.trans hk.symm))]
  ·rw[if_neg hk]
   by_cases h:g=k
   ·have hb:(g == k)=true:=beq_iff_eq.mpr h
    simp only[List.lookup,hb,if_neg (fun e:g=f=>hk (h.symm.trans e))]
   ·have hb:(g == k)=false:=beq_eq_false_iff_ne.mpr h
    simp only[List.lookup,hb]
    exact ih
theorem keys_putF (f:Str) (v:V):∀ fs:List (Str×V),f∈(putF f v fs).map (·.1)/\∀ g,g∈fs.map (·.1)->g∈(putF f v fs).map (·.1)
 | []=>⟨by simp[putF],fun g h=>by simp at h⟩
 | (k,x)::r=>by
  obtain⟨i1,i2⟩:=keys_putF f v r
  rw[show putF f v ((k,x)::r)=(if k=f then (k,v)::r else (k,x)::putF f v r) from rfl]
  by_cases hk:k=f
  ·rw[if_pos hk]
   subst hk
   exact⟨by simp,fun g h=>by simpa using h⟩
  ·rw[if_neg hk]
   refine⟨?_,fun g h=>?_⟩
   ·rw[List.map_cons]
    exact List.mem_cons_of_mem _ i1
   ·rw[List.map_cons] at h ⊢
    rcases List.mem_cons.mp h with e | e
    ·exact List.mem_cons.mpr (.inl e)
    ·exact List.mem_cons_of_mem _ (i2 g e)
theorem length_putF (f:Str) (v:V):∀ fs:List (Str×V),(putF f v fs).length<=fs.length+1
 | []=>by simp[putF]
 | (k,x)::r=>by
  have ih:=length_putF f v r
  rw[show putF f v ((k,x)::r)=(if k=f then (k,v)::r else (k,x)::putF f v r) from rfl]
  by_cases hk:k=f
  ·rw[if_pos hk,List.length_cons,List.length_cons]; omega
  ·rw[if_neg hk,List.length_cons,List.length_cons]; omega
theorem RelO.some_of {v:V} {o:Option Value} (r:RelO (some v) o):∃ u,o=some u/\RelV v u:=by
 cases o with
 | none=>exact (show False from r).elim
 | some u=>exact⟨u,rfl,r⟩
theorem RelO.none_of {o:Option Value} (r:RelO none o):o=none:=by
 cases o with
 | none=>rfl
 | some u=>exact (show False from r).elim
theorem handed_of {v:V} {u:Value} (r:RelV v u):PySem.W.handedIn u=true:=by
 cases v with
 | non=>cases (show u=Value.none from r); rfl
 | bl b=>cases (show u=Value.bool b from r); rfl
 | int i=>obtain⟨t,e⟩:=(show ∃ t,u=Value.int i t from r); cases e; rfl
 | str x=>obtain⟨t,e⟩:=(show ∃ t,u=Value.str x t from r); cases e; rfl
 | byt b=>obtain⟨t,e⟩:=(show ∃ t,u=Value.bytes b t from r); cases e; rfl
 | flt b=>obtain⟨t,e⟩:=(show ∃ t,u=Value.float b t from r); cases e; rfl
 | ref a=>cases (show u=Value.ref a from r); rfl
 | ty n=>cases (show u=Value.type n from r); rfl
section
variable {P:Program} {w:World} {H H':Hp} {h h':Heap} {a C dx:Addr} {fs fs':List (Str×V)}
theorem ins_get (hok:HOk P w H h) (e:H a=some (.ins C dx fs)):∃ mA,ObjM h a dx C mA/\(∀ f,RelO (fs.lookup f) (mA f))/\PySem.Within mA (fs.map (·.1))/\fs.length<=1000/\H dx=some (.own a):=by
 obtain⟨d,z,ne,ob,mA,n,r,q⟩:=(show ObjOk P w H h a (.ins C dx fs) from hok a _ e)
 exact⟨mA,⟨ob,n,ne⟩,r,q,z,d⟩
end
structure Cls (K:PySem.W.Frag) (C:Addr):Prop where
 pg:PySem.W.plainGet K C Str.empty=true
 hd:PySem.W.hasDictIn K C=true
 po:PySem.W.plainOver K C=true
 sa:PySem.W.findIn K (.ref C) "__setattr__" = some (some (.builtin "object.__setattr__"))
theorem Cls.get {K:PySem.W.Frag} {C:Addr} (c:Cls K C) (f:Str):PySem.W.plainGet K C f=true:=c.pg
def NoAttr (K:PySem.W.Frag) (C:Addr) (f:Str):Prop:=PySem.W.findIn K (.ref C) f=some none
theorem NoAttr.taker {K:PySem.W.Frag} {C:Addr} {f:Str} (n:NoAttr K C f):PySem.W.takerIn K C f=some none:=by
 unfold PySem.W.takerIn
 rw[show PySem.W.findIn K (.ref C) f=some none from n]
 rfl
structure Meth (K:PySem.W.Frag) (C:Addr) (m:Str) (f:Addr):Prop where
 at_:PySem.W.findIn K (.ref C) m=some (some (.ref f))
 fn:PySem.W.isFn K (.ref f)=true
 kp:PySem.W.keepIn K (.ref f)=true
section
variable {X:Cx} {pins:List (Addr×Obj)} {σ:St} {H:Hp} {s:Shared} {a C dx:Addr} {fs:List (Str×V)} {f:Str} {v:V} {A:Around} {E:Value->Shared->Prop}
theorem getattr_ok {b:Bool} {Q:Value->Shared->Prop} (I:Inv X pins σ H s) (e:H a=some (.ins C dx fs)) (c:Cls X.K C) (n:NoAttr X.K C f) (l:fs.lookup f=some v)
  (h:∀ u s',Inv X pins σ H s'->RelV v u->Q u s'):wpAny (model X.prog X.w) A (getAttr (.ref a) f b) Q E s:=by
 obtain⟨mA,O,r,_,_,_⟩:=ins_get I.hok e
 obtain⟨u,hu,ru⟩:=RelO.some_of (v:=v) (o:=mA f) (by rw[<-l]; exact r f)
 exact get_map I.kIn O (c.get f) c.hd n hu (handed_of ru) (h u _ (I.tok _) ru)
theorem getmeth_ok {m:Str} {g:Addr} {pl:Sem Bool} {Q:Value×List Value->Shared->Prop} (I:Inv X pins σ H s) (e:H a=some (.ins C dx fs)) (c:Cls X.K C) (k:Meth X.K C m g) (l:fs.lookup m=none)
  (h:Q (.ref g,[.ref a]) s):wpAny (model X.prog X.w) A (getMethod (.ref a) m pl) Q E s:=by
 obtain⟨mA,O,r,_,_,_⟩:=ins_get I.hok e
 have hn:mA m=none:=RelO.none_of (by rw[<-l]; exact r m)
 exact get_meth I.kIn O (c.get m) k.at_ k.fn hn h
theorem setattr_ok {y:V} {u:Value} {Q:Unit->Shared->Prop} (I:Inv X pins σ H s) (e:H a=some (.ins C dx fs)) (c:Cls X.K C) (n:NoAttr X.K C f) (hl:fs.length<1000) (ry:RelV y u)
  (h:∀ s',Inv X pins σ (upd H a (.ins C dx (putF f y fs))) s'->Q () s'):wpAny (model X.prog X.w) A (setAttr (.ref a) f u) Q E s:=by
 obtain⟨mA,O,r,wi,_,ho⟩:=ins_get I.hok e
 have hz:(fs.map (·.1)).length<=sizeLine:=by rw[List.length_map,sizeLine_eq]; omega
 refine set_map I.kIn O c.sa c.po n.taker c.hd wi hz fun h' O' sb=>h _ ?_
 have hd:∃ o,h'.get? dx=some o:=let ⟨o,_,_,e',_⟩:=O'.ns; ⟨o,e'⟩
 refine I.write (x:=a) (e:=dx) (by rw[e]; exact True.intro) (.inr ho) (fun b q hb z=>(sb.2 b hb).trans z) hd ?_
 refine⟨by rw[upd_ne O.ne]; exact ho,?_,O.ne,O'.obj,_,O'.ns,fun g=>?_,fun g hg=>?_⟩
 ·have:=length_putF f y fs; omega
 ·show RelO ((putF f y fs).lookup g) (if g=f then some u else mA g)
  rw[lookup_putF]
  by_cases q:g=f
  ·rw[if_pos q,if_pos q]; exact ry
  ·rw[if_neg q,if_neg q]; exact r g
 ·by_cases q:g=f
  ·rw[q]; exact (keys_putF f y fs).1
  ·refine (keys_putF f y fs).2 g (wi g fun z=>hg ?_)
   show (if g=f then some u else mA g)=none
   rw[if_neg q]; exact z
theorem Inv.made (I:Inv X pins σ H s):Inv X pins σ (upd (upd H s.heap.objs.size (.own (s.heap.objs.size+1))) (s.heap.objs.size+1) (.ins C s.heap.objs.size []))
  { s with heap:=(s.heap.push PySem.W.emptyDict).push (PySem.W.instObj C s.heap.objs.size) }:=by
 have e1:(s.heap.push PySem.W.emptyDict).get? s.heap.objs.size=some PySem.W.emptyDict:=Heap.get?_push_size s.heap rfl
 have e2:((s.heap.push PySem.W.emptyDict).push (PySem.W.instObj C s.heap.objs.size)).get? (s.heap.objs.size+1)=some (PySem.W.instObj C s.heap.objs.size):=by
  have:=Heap.get?_push_size (s.heap.push PySem.W.emptyDict) (o:=PySem.W.instObj C s.heap.objs.size) rfl
  rwa [Heap.size_push] at this
 have e3:(s.heap.push PySem.W.emptyDict).Ns s.heap.objs.size (fun _=>none):=⟨PySem.W.emptyDict,#[],_,e1,rfl,(fun e he=>absurd he (by simp)),fun _=>rfl⟩
 have I1:=I.laid (a:=s.heap.objs.size) (o:=.own (s.heap.objs.size+1)) (h':=s.heap.push PySem.W.emptyDict) (t':=s.toks) (fun b u q=>Heap.get?_push_of_some _ q) (Nat.le_refl _) ⟨_,e1⟩
 refine I1.laid (a:=s.heap.objs.size+1) (o:=.ins C s.heap.objs.size []) (t':=s.toks) (fun b u q=>Heap.get?_push_of_some _ q) (Nat.le_of_eq (Heap.size_push _ _)) ?_
 have ne:s.heap.objs.size≠s.heap.objs.size+1:=Nat.ne_of_lt (Nat.lt_succ_self _)
 refine⟨by rw[upd_ne ne,upd_same],Nat.zero_le _,ne,e2,fun _=>none,(Heap.Ns1.of_empty e3).at fun o q=>Heap.get?_push_of_some _ q,fun _=>True.intro,fun y hy=>absurd rfl hy⟩
theorem attr_of {prog:Program} {w:World} {env:Env} {e:Expr} {f:Str} {pos:Pos} {s:Shared} {Q:Value->Shared->Prop} (hb:attributeBase e f env (eval e env)=eval e env)
  (h:wpAny (model prog w) A (eval e env) (fun o s₁=>wpAny (model prog w) A (getAttr o f true) Q E s₁) E s):wpAny (model prog w) A (eval (.Attribute e f pos) env) Q E s:=
 Attribute_any_ h (by rw[arm_eval_Attribute,hb])
end
def tFld (K:PySem.W.Frag) (ta:TE) (f:Str):TE:=fun σ H Q=>ta σ H fun x H1=>∃ a C dx fs v,x=.ref a/\H1 a=some (.ins C dx fs)/\Cls K C/\NoAttr K C f/\fs.lookup f=some v/\Q v H1
def sFld (K:PySem.W.Frag) (ta tv:TE) (f:Str):TS:=fun D σ H=>tv σ H fun y H1=>ta σ H1 fun x H2=>∃ a C dx fs,x=.ref a/\H2 a=some (.ins C dx fs)/\Cls K C/\NoAttr K C f/\fs.length<1000 /\
 D.nx σ (upd H2 a (.ins C dx (putF f y fs)))
section
variable {X:Cx} {o e value:Expr} {f:Str} {pos pos' tpos:Pos} {ta tv:TE}
theorem pe_fld (he:PE X e ta) (hb:attributeBase e f X.env (eval e X.env)=eval e X.env):PE X (.Attribute e f pos) (tFld X.K ta f):=by
 intro pins s σ H Q I h
 refine attr_of hb (thn (he pins s σ H _ I h) fun u s1 ⟨x,H1,I1,rx,a,C,dx,fs,v,ex,ea,c,n,l,q⟩=>?_)
 subst ex
 obtain rfl:u=Value.ref a:=rx
 exact getattr_ok I1 ea c n l fun u' s2 I2 ru=>⟨v,H1,I2,ru,q⟩
theorem ps_fld (ha:PE X o ta) (hv:PE X value tv) (hs:swapsWith value (some (.Attribute o f pos')) pos.line X.env=pure false):PS X (.Assign [.Attribute o f pos'] value pos) (sFld X.K ta tv f):=by
 intro pins s σ H D I h
 refine plainObj_wpAny_Assign_Attribute (thn (hv pins s σ H _ I h) fun u s1 ⟨y,H1,I1,ry,q⟩=>thn (ha pins s1 σ H1 _ I1 q) fun ov s2 ⟨x,H2,I2,rx,a,C,dx,fs,ex,ea,c,n,l,q2⟩=>?_) hs
 subst ex
 obtain rfl:ov=Value.ref a:=rx
 exact setattr_ok I2 ea c n l ry fun s3 I3=>⟨σ,_,I3,q2⟩
end
section
variable {X:Cx} {pins:List (Addr×Obj)} {σ:St} {H:Hp} {s:Shared} {A:Around} {E:Value->Shared->Prop} {Q:Value->Shared->Prop} {c:Value} {b:Bool}
inductive TyOf (K:PySem.W.Frag) (H:Hp):V->Value->Prop where
 | non:TyOf K H .non (.type "NoneType")
 | bl (x:Bool):TyOf K H (.bl x) (.type "bool")
 | int (i:Int):TyOf K H (.int i) (.type "int")
 | str (x:Str):TyOf K H (.str x) (.type "str")
 | flt (x:UInt64):TyOf K H (.flt x) (.type "float")
 | lst {a:Addr} {xs:List V} (e:H a=some (.lst xs)):TyOf K H (.ref a) (.type "list")
 | frz {a:Addr} {o:Obj} {xs:List V} (e:H a=some (.frz o (.lst xs))):TyOf K H (.ref a) (.type "list")
 | tup {a:Addr} {xs:List V} (e:H a=some (.tup xs)):TyOf K H (.ref a) (.type "tuple")
 | dK {a:Addr} {kvs:List (Key×V)} (e:H a=some (.dK kvs)):TyOf K H (.ref a) (.type "dict")
 | dT {a:Addr} {kvs:List (List Key×V)} (e:H a=some (.dT kvs)):TyOf K H (.ref a) (.type "dict")
 | ins {a C dx:Addr} {fs:List (Str×V)} (e:H a=some (.ins C dx fs)) (cl:Cls K C) (ha:PySem.W.findIn K (.ref C) "__class__" = some (some (.builtin "object.__class__")))
   (hn:PySem.W.specialIn K (.builtin "object.__class__") "__get__" = some (some (.builtin "getset_descriptor.__get__"))) (htk:PySem.W.takesIn K (.builtin "object.__class__")=some true)
   (hm:PySem.W.mroIn K C (.type "object")=some true):TyOf K H (.ref a) (.ref C)
theorem isinst_ok {x:V} {u t:Value} (I:Inv X pins σ H s) (rx:RelV x u) (ty:TyOf X.K H x t) (e:PySem.W.kitOne X.K t c=some b) (h:∀ tk,Q (.bool b) { s with toks:=tk }) :
  wpAny (model X.prog X.w) A (call (.builtin "isinstance") [u,c]) Q E s:=by
 cases ty with
 | non=>cases (show u=Value.none from rx); exact PySem.W.kia_one PySem.W.kitx_none I.kIn True.intro e (fun z=>nomatch z) h
 | bl y=>cases (show u=Value.bool y from rx); exact PySem.W.kia_one PySem.W.kitx_bool I.kIn True.intro e (fun z=>nomatch z) h
 | int i=>obtain⟨t,q⟩:=(show ∃ t,u=Value.int i t from rx); cases q; exact PySem.W.kia_one PySem.W.kitx_int I.kIn True.intro e (fun z=>nomatch z) h
 | str y=>obtain⟨t,q⟩:=(show ∃ t,u=Value.str y t from rx); cases q; exact PySem.W.kia_one PySem.W.kitx_str I.kIn True.intro e (fun z=>nomatch z) h
 | flt y=>obtain⟨t,q⟩:=(show ∃ t,u=Value.float y t from rx); cases q; exact PySem.W.kia_one PySem.W.kitx_float I.kIn True.intro e (fun z=>nomatch z) h
 | @lst a xs ea=>
  cases (show u=Value.ref a from rx)
  obtain⟨_,_,n,_,h1⟩:=(show ObjOk X.prog X.w H s.heap a (.lst xs) from I.hok a _ ea)
  exact PySem.W.kia_one PySem.W.kitx_list I.kIn ⟨_,h1,rfl⟩ e (fun z=>nomatch z) h
 | @frz a ob xs ea=>
  cases (show u=Value.ref a from rx)
  obtain⟨_,_,_,n,_,h1⟩:=(show ObjOk X.prog X.w H s.heap a (.frz ob (.lst xs)) from I.hok a _ ea)
  exact PySem.W.kia_one PySem.W.kitx_list I.kIn ⟨_,h1,rfl⟩ e (fun z=>nomatch z) h
 | @tup a xs ea=>
  cases (show u=Value.ref a from rx)
  obtain⟨_,_,_,p⟩:=(show ObjOk X.prog X.w H s.heap a (.tup xs) from I.hok a _ ea)
  obtain⟨o,h1,h2,_⟩:=p
  exact PySem.W.kia_one PySem.W.kitx_tuple I.kIn ⟨o,h1,h2⟩ e (fun z=>nomatch z) h
 | @dK a kvs ea=>
  cases (show u=Value.ref a from rx)
  obtain⟨_,_,vs,_,p⟩:=(show ObjOk X.prog X.w H s.heap a (.dK kvs) from I.hok a _ ea)
  obtain⟨o,es,ep,h1,h2,_⟩:=p
  exact PySem.W.kia_one PySem.W.kitx_dict I.kIn ⟨o,h1,h2.1⟩ e (fun z=>nomatch z) h
 | @dT a kvs ea=>
  cases (show u=Value.ref a from rx)
  obtain⟨_,_,xs,_,o,es,ep,h1,h2,_⟩:=(show ObjOk X.prog X.w H s.heap a (.dT kvs) from I.hok a _ ea)
  exact PySem.W.kia_one PySem.W.kitx_dict I.kIn ⟨o,h1,h2.1⟩ e (fun z=>nomatch z) h
 | @ins a C dx fs ea cl ha hn htk hm=>
  cases (show u=Value.ref a from rx)
  obtain⟨mA,O,_⟩:=ins_get I.hok ea
  obtain⟨od,J,_⟩:=O.look
  exact PySem.W.kia_one (PySem.W.kitx_own (cl.get _) cl.hd ha hn htk hm) I.kIn J e (fun z=>nomatch z) h
end
end L2
namespace L2
open PySem PySem.Spec PyProof.Rows
structure Room (k:Nat) (A:Around):Prop where
 hd:A.handled=none
 dp:A.depth+3*k+5<recursionLimit
 un:A.units+16*k+200<cLine
theorem Room.mono {j k:Nat} {A:Around} (r:Room k A) (h:j<=k):Room j A:=⟨r.hd,by have:=r.dp; omega,by have:=r.un; omega⟩
theorem Room.deeper {k:Nat} {A:Around} (r:Room (k+1) A) (env:Env):Room k (A.deeper env):=
 ⟨r.hd,by have:=r.dp; show A.depth+1+3*k+5<_; omega,by have:=r.un; show A.units+3+16*k+200<_; omega⟩
theorem make_depth {A:Around} {C:Addr} {us:List Value} {kw:List (Str×Value)}:(A.under (.builtin "type.__call__" ⟨.ref C::us,kw⟩)).depth=A.depth+1:=by
 first | rfl | simp[Around.under,Code.weight,Code.isCreation,Code.isGuard,Code.isCaller,Code.frames,Code.isFrame,guardIds]
theorem make_units {A:Around} {C:Addr} {us:List Value} {kw:List (Str×Value)}:(A.under (.builtin "type.__call__" ⟨.ref C::us,kw⟩)).units=A.units+1:=by
 first | rfl | simp[Around.under,Code.cUnits,Code.frames,Code.isFrame]
theorem Room.make {k:Nat} {A:Around} (r:Room (k+1) A) (C:Addr) (us:List Value) (kw:List (Str×Value)):Room k (A.under (.builtin "type.__call__" ⟨.ref C::us,kw⟩)):=
 ⟨r.hd,by have:=r.dp; rw[make_depth]; omega,by have:=r.un; rw[make_units]; omega⟩
theorem Room.depth {k:Nat} {A:Around} (r:Room k A):A.depth<recursionLimit:=by have:=r.dp; omega
theorem Room.units {k:Nat} {A:Around} (r:Room k A):A.units+64<cLine:=by have:=r.un; omega
def tNil:TA:=fun _ H Q=>Q [] H
def tCons (ta:TE) (tr:TA):TA:=fun σ H Q=>ta σ H fun x H1=>tr σ H1 fun xs H2=>Q (x::xs) H2
section
variable {X:Cx} {e:Expr} {es:List Expr} {te:TE} {t:TA} {pos:Pos}
theorem pa_nil:PA X [] tNil:=fun _ _ _ _ H Q I h=>Calls.spliced_nil ⟨[],H,I,.nil,h⟩
theorem pa_cons (ha:PE X e te) (hr:PA X es t) (hs:starEach (e::es) X.env=(false,eval e X.env)::starEach es X.env:=by rfl):PA X (e::es) (tCons te t):=by
 intro pos pins s σ H Q I h
 rw[hs]
 show wpAny _ _ (spliced ((false,eval e X.env)::backTo pos (starEach es X.env))) _ _ s
 refine Calls.spliced_cons (thn (ha pins s σ H _ I h) fun u s1 ⟨x,H1,I1,r1,q1⟩=>?_)
 exact thn (hr pos pins s1 σ H1 _ I1 q1) fun us s2 ⟨xs,H2,I2,r2,q2⟩=>⟨x::xs,H2,I2,.cons r1 r2,q2⟩
def tTup (t:TA):TE:=fun σ H Q=>t σ H fun xs H1=>xs.length<=sizeLine/\∀ p,H1 p=none->Q (.ref p) (upd H1 p (.tup xs))
def tLst (t:TA):TE:=fun σ H Q=>t σ H fun xs H1=>xs.length<=sizeLine/\∀ p,H1 p=none->Q (.ref p) (upd H1 p (.lst xs))
theorem pe_tup {x1} (h:PA X es t):PE X (.Tuple es x1 pos) (tTup t):=by
 intro pins s σ H Q I hq
 refine wpAny_Tuple_spliced (thn (h pos pins s σ H _ I hq) fun us s1 ⟨xs,H1,I1,r,z,q⟩=>⟨by rw[<-r.length]; exact z,?_⟩)
 have hf:H1 s1.heap.objs.size=none:=I1.hok.fresh (Nat.le_refl _)
 refine⟨.ref s1.heap.objs.size,upd H1 s1.heap.objs.size (.tup xs),I1.laid (t':=s1.toks) (fun b u e=>Heap.get?_push_of_some _ e) (Nat.le_refl _) ?_,rfl,q _ hf⟩
 exact⟨z,us,r,⟨_,Heap.get?_push_size _ rfl,rfl,_,rfl⟩⟩
theorem pe_lst (h:PA X es t):PE X (.List es pos) (tLst t):=by
 intro pins s σ H Q I hq
 refine wpAny_List_spliced (thn (h pos pins s σ H _ I hq) fun us s1 ⟨xs,H1,I1,r,z,q⟩=>⟨by rw[<-r.length]; exact z,?_⟩)
 have hf:H1 s1.heap.objs.size=none:=I1.hok.fresh (Nat.le_refl _)
 refine⟨.ref s1.heap.objs.size,upd H1 s1.heap.objs.size (.lst xs),I1.laid (t':=s1.toks) (fun b u e=>Heap.get?_push_of_some _ e) (Nat.le_refl _) ?_,rfl,q _ hf⟩
 exact⟨z,us,0,r,Heap.get?_push_size _ rfl⟩
end
abbrev Sp:=List V->Hp->VK->XK->Prop
abbrev CXT:=List Env->Hp->Shared->XK->Value->Shared->Prop
structure Env0 (P:Program) (w:World) (K:PySem.W.Frag) (mg:Str->Option Value) (base:Heap) (A:Around) (outer:List Env) (s:Shared) (H:Hp):Prop where
 frames:A.frames=some outer
 mod:Mod K mg base
 bs:∀ b o,base.get? b=some o->s.heap.get? b=some o/\H b=none
 bsz:base.objs.size<=s.heap.objs.size
 funs:s.heap.FunFrames base outer
 frf:∀ b∈frs outer,H b=none
 hok:HOk P w H s.heap
 bare:AllBare s.gens
def CE (outer:List Env) (P:Program) (w:World) (H:Hp) (s:Shared) (Q:VK) (u:Value) (s':Shared):Prop:=
 ∃ v H',s'.os=s.os/\AllBare s'.gens/\Un (frs outer) [] H H' s.heap s'.heap/\HOk P w H' s'.heap/\RelV v u/\Q v H'
def CR (CX:CXT) (outer:List Env) (P:Program) (w:World) (H:Hp) (s:Shared) (Q:VK) (E:XK) (r:Result) (s':Shared):Prop:=
 match r with
 | .ok (.ret u)=>CE outer P w H s Q u s'
 | .ok _=>False
 | .error e=>CX outer H s E e s'
structure FnOk (P:Program) (w:World) (K:PySem.W.Frag) (mg:Str->Option Value) (base:Heap) (CX:CXT) (k:Nat) (f:Addr) (fd:FuncData) (ps:List Str) (sp:Sp):Prop where
 len:∀ vs H Q E,sp vs H Q E->vs.length=ps.length
 run:∀ (A:Around) (outer:List Env) (s:Shared) (H:Hp) (args:Args) (us:List Value) (vs:List V) (Q:VK) (E:XK),Room k A->Env0 P w K mg base A outer s H->BindsTo s fd args (ps.zip us)->Vals vs us->sp vs H Q E ->
  codeAny (model P w) A (.call (.ref f) args) (CR CX outer P w H s Q E) s
theorem Env0.make {P:Program} {w:World} {K:PySem.W.Frag} {mg:Str->Option Value} {base:Heap} {A:Around} {outer:List Env} {s:Shared} {H:Hp} (e:Env0 P w K mg base A outer s H) (C:Addr) (us:List Value) (kw:List (Str×Value)) :
  Env0 P w K mg base (A.under (.builtin "type.__call__" ⟨.ref C::us,kw⟩)) outer s H:=⟨by first | exact e.frames | (simpa [Around.under,Code.envs,Code.isFrame,pushEnvs] using e.frames),e.mod,e.bs,e.bsz,e.funs,e.frf,e.hok,e.bare⟩
section
variable {X:Cx} {pins:List (Addr×Obj)} {σ:St} {H:Hp} {s s':Shared}
theorem Inv.env0 (I:Inv X pins σ H s):Env0 X.prog X.w X.K X.mg X.base X.A X.stack s H:=
 ⟨I.ok.frames,I.ok.mod,I.bs,Nat.le_trans I.ok.bsz I.sz,I.stack,I.stkFree,I.hok,I.bare⟩
theorem Inv.after {Q:VK} {u:Value} (I:Inv X pins σ H s) (h:CE X.stack X.prog X.w H s Q u s'):EP X pins σ Q u s':=by
 obtain⟨v,H',os,bare,un,hok,r,q⟩:=h
 obtain⟨hh,g,d,t,os'⟩:=s'
 obtain rfl:os'=s.os:=os
 exact⟨v,H',I.call (h':=hh) (g':=g) (d':=d) (t':=t) (ch:=[]) un hok bare (fun b z=>absurd z (by simp)),r,q⟩
end
def tCall (sp:Sp) (dvs:List V) (E:XK) (t:TA):TE:=fun σ H Q=>t σ H fun vs H1=>sp (vs++dvs) H1 Q E
def tMeth (C:Addr) (m:Str) (sp:Sp) (dvs:List V) (E:XK) (ta:TE) (t:TA):TE:=fun σ H Q=>ta σ H fun x H1=>∃ a dx fs,x=.ref a/\H1 a=some (.ins C dx fs)/\fs.lookup m=none /\
 t σ H1 fun vs H2=>sp (x::(vs++dvs)) H2 Q E
def tMake (C:Addr) (sp:Sp) (dvs:List V) (E:XK) (t:TA):TE:=fun σ H Q=>t σ H fun vs H1=>∀ x dx,H1 x=none->H1 dx=none->dx≠x ->
 sp (.ref x::(vs++dvs)) (upd (upd H1 dx (.own x)) x (.ins C dx [])) (fun v H2=>v=.non/\Q (.ref x) H2) E
def Binds (K:PySem.W.Frag) (fd:FuncData) (ps:List Str) (ds:List Value):Prop:=
 ∀ (s:Shared) (us:List Value),K.In s.heap->(us++ds).length=ps.length->BindsTo s fd ⟨us,[]⟩ (ps.zip (us++ds))
theorem Binds.all {K:PySem.W.Frag} {fd:FuncData} {ps:List Str} (h:∀ us:List Value,us.length=ps.length->bindArgs fd ⟨us,[]⟩=pure (ps.zip us)):Binds K fd ps []:=fun s us _ hl=>by
 rw[List.append_nil] at hl ⊢
 exact .of_eq (h us hl)
def Passes (CX:CXT) (X:Cx) (E:XK):Prop:=∀ (pins:List (Addr×Obj)) (σ:St) (H:Hp) (s:Shared) (e:Value) (s':Shared),Inv X pins σ H s->CX X.stack H s E e s'->X.xe e s'
section
variable {X:Cx} {CX:CXT} {k:Nat} {f C:Addr} {fd:FuncData} {ps:List Str} {sp:Sp} {dvs:List V} {ds:List Value} {E:XK} {x m:Str} {p pos apos:Pos} {e o:Expr} {es:List Expr} {ta:TE} {t:TA}
theorem run_fn {pins:List (Addr×Obj)} {σ:St} {H:Hp} {s:Shared} {Q:VK} {us:List Value} {vs:List V} (F:FnOk X.prog X.w X.K X.mg X.base CX k f fd ps sp) (hr:Room k X.A) (hb:Binds X.K fd ps ds) (hd:Vals dvs ds) (hx:Passes CX X E)
  (I:Inv X pins σ H s) (r:Vals vs us) (h:sp (vs++dvs) H Q E):wpAny (model X.prog X.w) X.A (call (.ref f) us) (EP X pins σ Q) X.xe s:=by
 have r2:Vals (vs++dvs) (us++ds):=r.append hd
 have hl:(us++ds).length=ps.length:=by rw[<-r2.length]; exact F.len _ _ _ _ h
 refine wpAny_call (codeAny_mono (F.run X.A X.stack s H ⟨us,[]⟩ (us++ds) (vs++dvs) Q E hr I.env0 (hb s us I.kIn hl) r2 h) fun r s' hq=>?_)
 cases r with
 | error e=>exact hx pins σ H s e s' I hq
 | ok fl=>
  cases fl with
  | ret u=>exact I.after hq
  | next=>exact False.elim hq
  | brk=>exact False.elim hq
  | cont=>exact False.elim hq
theorem pe_call (F:FnOk X.prog X.w X.K X.mg X.base CX k f fd ps sp) (hr:Room k X.A) (hg:Gl X x) (hm:X.mg x=some (.ref f)) (hk:PySem.W.keepIn X.K (.ref f)=true) (hb:Binds X.K fd ps ds) (hd:Vals dvs ds) (hx:Passes CX X E)
  (ha:PA X (e::es) t) (hdb:(x == ("__debug__" : Str))=false:=by decide) (he:starEach (e::es) X.env=(false,eval e X.env)::starEach es X.env:=by rfl) (hpl:(backTo pos (starEach es X.env)).any (·.1)=false:=by rfl) :
  PE X (.Call (.Name x p) (e::es) [] pos) (tCall sp dvs E t):=by
 intro pins s σ H Q I h
 refine wpAny_Call_Name_kw (ld_glob I hg hm ?_ hdb)
 refine PySem.W.callWith_K (h₀:=X.base) I.ok.mod.kin hk (thn (ha pos pins s σ H _ I h) fun us s1 ⟨vs,H1,I1,r,q⟩=>⟨I1.kIn,?_⟩) he hpl
 exact run_fn F hr hb hd hx I1 r q
theorem pe_meth {pl:Sem Bool} (he:PE X o ta) (c:Cls X.K C) (hm:Meth X.K C m f) (F:FnOk X.prog X.w X.K X.mg X.base CX k f fd ps sp) (hr:Room k X.A) (hb:Binds X.K fd ps ds) (hd:Vals dvs ds) (hx:Passes CX X E) (ha:PA X (e::es) t)
  (hst:starEach (e::es) X.env=(false,eval e X.env)::starEach es X.env:=by rfl) (hpl:(backTo pos (starEach es X.env)).any (·.1)=false:=by rfl)
  (ht:eval (.Call (.Attribute o m apos) (e::es) [] pos) X.env=(do
   let ov ← eval o X.env
   standAt apos.atName
   let (f,first) ← holding [ov] (getMethod ov m pl)
   callWith pos f first (backTo pos (starEach (e::es) X.env)) (backToKw pos (keywordEach [] X.env))):=by rfl) :
  PE X (.Call (.Attribute o m apos) (e::es) [] pos) (tMeth C m sp dvs E ta t):=by
 intro pins s σ H Q I h
 refine PySem.W.methodCall_KW (pl:=pl) (thn (he pins s σ H _ I h) fun u s1 ⟨x,H1,I1,rx,a,dx,fs,ex,ea,l,q⟩=>?_) ht
 subst ex
 obtain rfl:u=Value.ref a:=rx
 refine getmeth_ok I1 ea c hm l ?_
 refine PySem.W.callWith_K (first:=[.ref a]) (h₀:=X.base) I.ok.mod.kin hm.kp (thn (ha pos pins s1 σ H1 _ I1 q) fun us s2 ⟨vs,H2,I2,r,q2⟩=>⟨I2.kIn,?_⟩) hst hpl
 exact run_fn (us:=.ref a::us) (vs:=.ref a::vs) F hr hb hd hx I2 (.cons rfl r) q2
theorem pe_meth0 {pl:Sem Bool} (he:PE X o ta) (c:Cls X.K C) (hm:Meth X.K C m f) (F:FnOk X.prog X.w X.K X.mg X.base CX k f fd ps sp) (hr:Room k X.A) (hb:Binds X.K fd ps ds) (hd:Vals dvs ds) (hx:Passes CX X E)
  (ht:eval (.Call (.Attribute o m apos) [] [] pos) X.env=(do
   let ov ← eval o X.env
   standAt apos.atName
   let (f,first) ← holding [ov] (getMethod ov m pl)
   callWith pos f first (backTo pos (starEach [] X.env)) (backToKw pos (keywordEach [] X.env))):=by rfl) :
  PE X (.Call (.Attribute o m apos) [] [] pos) (tMeth C m sp dvs E ta tNil):=by
 intro pins s σ H Q I h
 refine PySem.W.methodCall_KW (pl:=pl) (thn (he pins s σ H _ I h) fun u s1 ⟨x,H1,I1,rx,a,dx,fs,ex,ea,l,q⟩=>?_) ht
 subst ex
 obtain rfl:u=Value.ref a:=rx
 refine getmeth_ok I1 ea c hm l ?_
 exact PySem.W.callWith_K0 (first:=[.ref a]) I1.kIn hm.kp (run_fn (us:=[.ref a]) (vs:=[.ref a]) F hr hb hd hx I1 (.cons rfl .nil) q)
structure Mk (K:PySem.W.Frag) (C f:Addr):Prop where
 makes:PySem.W.makesIn K C=true
 init:PySem.W.findIn K (.ref C) "__init__" = some (some (.ref f))
 fn:PySem.W.isFn K (.ref f)=true
 kp:PySem.W.keepIn K (.ref C)=true
theorem run_make {pins:List (Addr×Obj)} {σ:St} {H:Hp} {s:Shared} {Q:VK} {us:List Value} {vs:List V} (M:Mk X.K C f) (F:FnOk X.prog X.w X.K X.mg X.base CX k f fd ps sp) (hr:Room (k+1) X.A) (hb:Binds X.K fd ps ds) (hd:Vals dvs ds)
  (hx:Passes CX X E) (I:Inv X pins σ H s) (r:Vals vs us)
  (h:∀ x dx,H x=none->H dx=none->dx≠x->sp (.ref x::(vs++dvs)) (upd (upd H dx (.own x)) x (.ins C dx [])) (fun v H2=>v=.non/\Q (.ref x) H2) E) :
  wpAny (model X.prog X.w) X.A (call (.ref C) us) (EP X pins σ Q) X.xe s:=by
 have hq:=h (s.heap.objs.size+1) s.heap.objs.size (I.hok.fresh (Nat.le_succ _)) (I.hok.fresh (Nat.le_refl _)) (Nat.ne_of_lt (Nat.lt_succ_self _))
 have I2:=Inv.made (C:=C) I
 have r2:Vals (V.ref (s.heap.objs.size+1)::(vs++dvs)) (Value.ref (s.heap.objs.size+1)::(us++ds)):=.cons rfl (r.append hd)
 have hl:(Value.ref (s.heap.objs.size+1)::us++ds).length=ps.length:=by
  have e:=r2.length
  rw[F.len _ _ _ _ hq] at e
  exact e.symm
 refine wpAny_call (make_map (f:=f) I.kIn M.makes M.init (beq_iff_eq.mp M.fn) (codeAny_mono (F.run _ X.stack _ _ ⟨Value.ref (s.heap.objs.size+1)::us,[]⟩ (Value.ref (s.heap.objs.size+1)::(us++ds)) _ _ E (hr.make C us [])
  (I2.env0.make C us []) (hb _ (Value.ref (s.heap.objs.size+1)::us) I2.kIn hl) r2 hq) fun r s' hq'=>?_))
 cases r with
 | error e=>exact hx pins σ _ _ e s' I2 hq'
 | ok fl=>
  cases fl with
  | ret u=>
   obtain⟨v,H',I3,rv,ev,q3⟩:=I2.after hq'
   subst ev
   exact⟨rv,⟨V.ref (s.heap.objs.size+1),H',I3,rfl,q3⟩⟩
  | next=>exact False.elim hq'
  | brk=>exact False.elim hq'
  | cont=>exact False.elim hq'
theorem pe_make (M:Mk X.K C f) (F:FnOk X.prog X.w X.K X.mg X.base CX k f fd ps sp) (hr:Room (k+1) X.A) (hg:Gl X x) (hm:X.mg x=some (.ref C)) (hb:Binds X.K fd ps ds) (hd:Vals dvs ds) (hx:Passes CX X E)
  (ha:PA X (e::es) t) (hdb:(x == ("__debug__" : Str))=false:=by decide) (he:starEach (e::es) X.env=(false,eval e X.env)::starEach es X.env:=by rfl) (hpl:(backTo pos (starEach es X.env)).any (·.1)=false:=by rfl) :
  PE X (.Call (.Name x p) (e::es) [] pos) (tMake C sp dvs E t):=by
 intro pins s σ H Q I h
 refine wpAny_Call_Name_kw (ld_glob I hg hm ?_ hdb)
 refine PySem.W.callWith_K (h₀:=X.base) I.ok.mod.kin M.kp (thn (ha pos pins s σ H _ I h) fun us s1 ⟨vs,H1,I1,r,q⟩=>⟨I1.kIn,?_⟩) he hpl
 exact run_make M F hr hb hd hx I1 r q
end
section
variable {X:Cx} {CX:CXT} {k:Nat} {f C:Addr} {fd:FuncData} {ps ks:List Str} {sp:Sp} {E:XK} {x m:Str} {p pos apos kpos:Pos} {e o:Expr} {es:List Expr} {kws:List Keyword} {te ta:TE} {t tk:TA} {nm:Option Str}
variable {g:List Value->List Value->List Value} {gV:List V->List V->List V}
end
structure FnScope (N P:List Str) (sc:Scope):Prop where
 kind:sc.kind=.function
 co:sc.isCoroutine=false
 gen:sc.isGenerator=false
 nd:N.Nodup
 pre:N.take P.length=P
 par:∀ x∈P,sc.names.lookup x=some .local\/sc.names.lookup x=some .cell
 nofree:∀ y∈sc.names,y.2≠.free
theorem bindL_out {kindOf:Str->Option NameKind} {x:Str}:∀ {binds:List (Str×Value)} {m:Str->Option Value},(∀ v,(x,v)∉binds)->bindL kindOf binds m x=m x
 | [],_,_=>rfl
 | (n,v)::r,m,h=>by
  unfold bindL
  rw[bindL_out fun w hw=>h w (List.mem_cons_of_mem _ hw)]
  split
  ·have:x≠n:=by rintro rfl; exact h v List.mem_cons_self
   simp[this]
  ·rfl
theorem bindC_out {kindOf:Str->Option NameKind} {x:Str}:∀ {binds:List (Str×Value)} {m:Str->Option Value},(∀ v,(x,v)∉binds)->bindC kindOf binds m x=m x
 | [],_,_=>rfl
 | (n,v)::r,m,h=>by
  unfold bindC
  rw[bindC_out fun w hw=>h w (List.mem_cons_of_mem _ hw)]
  split
  ·rfl
  ·have:x≠n:=by rintro rfl; exact h v List.mem_cons_self
   simp[this]
theorem bindL_get {kindOf:Str->Option NameKind} {x:Str} {v:Value}:∀ {P:List Str} {vs:List Value} {i:Nat} {m:Str->Option Value},P.Nodup->P[i]?=some x->vs[i]?=some v->kindOf x=some .local ->
  bindL kindOf (P.zip vs) m x=some v
 | [],_,_,_,_,h,_,_=>by simp at h
 | _::_,[],_,_,_,_,h,_=>by simp at h
 | p::P,w::vs,0,m,nd,h1,h2,hk=>by
  simp at h1 h2; subst h1; subst h2
  show bindL kindOf ((p,w)::P.zip vs) m p=_
  unfold bindL
  rw[bindL_out fun v hv=>(List.nodup_cons.mp nd).1 (List.of_mem_zip hv).1,if_pos hk]
  simp
 | p::P,w::vs,i+1,m,nd,h1,h2,hk=>by
  show bindL kindOf ((p,w)::P.zip vs) m x=_
  unfold bindL
  exact bindL_get (i:=i) (List.nodup_cons.mp nd).2 (by simpa using h1) (by simpa using h2) hk
theorem bindC_get {kindOf:Str->Option NameKind} {x:Str} {v:Value}:∀ {P:List Str} {vs:List Value} {i:Nat} {m:Str->Option Value},P.Nodup->P[i]?=some x->vs[i]?=some v->kindOf x≠some .local ->
  bindC kindOf (P.zip vs) m x=some v
 | [],_,_,_,_,h,_,_=>by simp at h
 | _::_,[],_,_,_,_,h,_=>by simp at h
 | p::P,w::vs,0,m,nd,h1,h2,hk=>by
  simp at h1 h2; subst h1; subst h2
  show bindC kindOf ((p,w)::P.zip vs) m p=_
  unfold bindC
  rw[bindC_out fun v hv=>(List.nodup_cons.mp nd).1 (List.of_mem_zip hv).1,if_neg hk]
  simp
 | p::P,w::vs,i+1,m,nd,h1,h2,hk=>by
  show bindC kindOf ((p,w)::P.zip vs) m x=_
  unfold bindC
  exact bindC_get (i:=i) (List.nodup_cons.mp nd).2 (by simpa using h1) (by simpa using h2) hk
def start (N:List Str) (vs:List V):St:=vs.map some++List.replicate (N.length-vs.length) none
def cxOf (CX:CXT) (P:Program) (w:World) (K:PySem.W.Frag) (mg:Str->Option Value) (base:Heap) (N:List Str) (qual:Str) (scope:Scope) (f:Addr) (cd:Value) (A:Around) (outer:List Env) (s:Shared) (H:Hp) (E:XK):Cx where
 prog:=P
 w:=w
 K:=K
 mg:=mg
 base:=base
 A:=A.deeper (envOfC qual scope s.heap.objs.size f cd)
 N:=N
 s₀:=s
 H₀:=H
 env:=envOfC qual scope s.heap.objs.size f cd
 outer:=outer
 stack:=envOfC qual scope s.heap.objs.size f cd::outer
 ex:=[]
 calm:=true
 fn:=fun _=>true
 pn:=[]
 xe:=fun e s'=>wpAny (model P w) (A.deeper (envOfC qual scope s.heap.objs.size f cd)) (leaving (envOfC qual scope s.heap.objs.size f cd) e) (fun _ s''=>CX outer H s E e s'') (fun e' s''=>CX outer H s E e' s'') s'
theorem cell_has {sc:Scope} {n:Nat} {x:Str} (h:sc.names.lookup x=some .cell):∃ c,(cellsFrom n sc.names []).lookup x=some c:=by
 have q:=PySem.W.cellsFrom_some sc.names n [] (.inl h)
 exact Option.isSome_iff_exists.mp q
theorem inv_start {CX:CXT} {P:Program} {w:World} {K:PySem.W.Frag} {mg:Str->Option Value} {base:Heap} {N ps:List Str} {qual:Str} {scope:Scope} {f:Addr} {cd:Value} {A:Around} {outer:List Env} {s s1:Shared} {H:Hp} {E:XK} {us:List Value} {vs:List V}
  (S:FnScope N ps scope) (hd:A.handled=none) (e0:Env0 P w K mg base A outer s H) (hl:vs.length=ps.length) (r:Vals vs us)
  (x:InCallC s s.heap.objs.size (bindL (envOfC qual scope s.heap.objs.size f cd).kindOf (ps.zip us) fun _=>none) (cellsFrom (s.heap.objs.size+1) scope.names []) (bindC (envOfC qual scope s.heap.objs.size f cd).kindOf (ps.zip us) fun _=>none) s1) :
  Inv (cxOf CX P w K mg base N qual scope f cd A outer s H E) [] (start N vs) H s1:=by
 have hpl:ps.length<=N.length:=by have:=congrArg List.length S.pre; rw[List.length_take] at this; omega
 obtain⟨h1,tk,rfl,hk⟩:=x.done
 have noA:∀ b:Addr,b∉(cxOf CX P w K mg base N qual scope f cd A outer s H E).ex:=fun b z=>absurd (show b∈([]:List Addr) from z) (by simp)
 refine⟨⟨e0.mod,S.kind,rfl,rfl,Nat.le_refl _,fun y z c h1 h2=>?_,fun y hy=>?_,fun y c _ h=>?_,fun _=>hd,Around.frames_deeper e0.frames,.inr ⟨rfl,rfl⟩,fun b z=>absurd z (noA b),e0.bs,e0.bsz,fun b _ _=>noA b,fun b z=>absurd z (noA b),e0.funs,e0.frf⟩,
  rfl,e0.bare,Un.kept hk,⟨_,x.toInCall.ns,fun i y v h1 h2 h3=>?_⟩,fun y c h=>⟨_,x.cell y c h⟩,e0.hok.fresh (Nat.le_refl _),fun y c h=>?_,fun p hp=>absurd (show p∈([]:List (Addr×Obj)) from hp) (by simp),e0.hok.kept hk,?_⟩
 ·exact name_of_addr x.apart (PySem.mem_of_lookup h1) (PySem.mem_of_lookup h2)
 ·have hy:scope.names.lookup y=some .cell\/scope.names.lookup y=some .free:=hy
  rcases hy with hy | hy
  ·exact cell_has hy
  ·exact absurd rfl (S.nofree _ (PySem.mem_of_lookup hy))
 ·exact Nat.le_of_lt (x.above y c (PySem.mem_of_lookup h))
 ·have hi:i<vs.length:=by
   unfold start at h2
   by_cases hi:i<vs.length
   ·exact hi
   ·rw[List.getElem?_append_right (by simpa using hi)] at h2
    rw[List.getElem?_replicate] at h2
    split at h2 <;> cases h2
  have ha:vs[i]?=some v:=by
   unfold start at h2
   rw[List.getElem?_append_left (by simpa using hi),List.getElem?_map] at h2
   cases e:vs[i]? with
   | none=>rw[e] at h2; cases h2
   | some a=>rw[e] at h2; cases h2; rfl
  obtain⟨u,hu,rv⟩:=r.get ha
  have hp:ps[i]?=some y:=by
   rw[<-S.pre,List.getElem?_take_of_lt (by omega)]; exact h1
  have ndP:ps.Nodup:=by rw[<-S.pre]; exact S.nd.sublist (List.take_sublist _ _)
  refine⟨u,rv,?_⟩
  rcases S.par y (List.mem_of_getElem? hp) with k | k
  ·exact .inl ⟨k,bindL_get ndP hp hu k⟩
  ·obtain⟨c,e⟩:=cell_has (n:=s.heap.objs.size+1) k
   refine .inr ⟨.inl k,c,e,?_⟩
   have q:=x.cell y c e
   rw[bindC_get ndP hp hu (by show scope.names.lookup y≠_; rw[k]; decide)] at q
   exact q
 ·exact e0.hok.fresh (Nat.le_of_lt (x.above y c (PySem.mem_of_lookup h)))
 ·unfold start
  show _=N.length
  rw[List.length_append,List.length_map,List.length_replicate]
  omega
theorem fn_of {CX:CXT} {P:Program} {w:World} {K:PySem.W.Frag} {mg:Str->Option Value} {base:Heap} {k:Nat} {f:Addr} {name qual:Str} {params:Arguments} {body:List Stmt} {scope:Scope} {dV kV doc pm cdv ct oc:Value} {an od:Option Addr}
  {osl:Array (Option Value)} {N ps:List Str} {sp:Sp} (lk:K.lookup f=some ⟨oc,od,.func (PySem.W.fnOf name qual params body scope dV kV doc pm an cdv ct),osl⟩) (hcd:PySem.W.codeIn K cdv qual=true) (S:FnScope N ps scope)
  (len:∀ vs H Q E,sp vs H Q E->vs.length=ps.length)
  (hbody:∀ (A:Around) (outer:List Env) (s:Shared) (H:Hp) (vs:List V) (Q:VK) (E:XK),Room k (A.deeper (envOfC qual scope s.heap.objs.size f cdv))->sp vs H Q E ->
   ∃ t,PSs (cxOf CX P w K mg base N qual scope f cdv A outer s H E) body t/\t { nx:=fun _ H'=>Q .non H',rt:=Q } (start N vs) H) :
  FnOk P w K mg base CX (k+1) f (PySem.W.fnOf name qual params body scope dV kV doc pm an cdv ct) ps sp:=by
 refine⟨len,fun A outer s H args us vs Q E hr e0 hb r hsp=>?_⟩
 have hl:=len _ _ _ _ hsp
 have KX:K.In s.heap:=e0.mod.kin.keeps fun b o e=>(e0.bs b o e).1
 have lim:s.heap.NoLimit:=e0.mod.nolimit.keeps fun b o e=>(e0.bs b o e).1
 have hkind:∀ y∈ps.zip us,scope.names.lookup y.1=some .local\/(scope.names.lookup y.1=some .cell/\((cellsFrom (s.heap.objs.size+1) scope.names []).lookup y.1).isSome=true):=fun⟨n,v⟩ hy=>by
  rcases S.par n (List.of_mem_zip hy).1 with q | q
  ·exact .inl q
  ·exact .inr ⟨q,PySem.W.cellsFrom_some _ _ _ (.inl q)⟩
 refine codeAny_call_function hr.depth (KX _ _ lk) rfl S.co S.gen rfl (PySem.W.codeRec_of KX hcd) (hb _ _ _ _ ?_)
 refine wpAny_newFunctionEnv_cells S.kind hkind fun env he s1 x=>?_
 subst he
 refine⟨lim.keeps x.toInCall.keep,codeAny_func ?_⟩
 obtain⟨t,ht,hq⟩:=hbody A outer s H vs Q E (hr.deeper _) hsp
 have I:Inv (cxOf CX P w K mg base N qual scope f cdv A outer s H E) [] (start N vs) H s1:=inv_start S hr.hd e0 hl r x
 refine wpAny_mono (ht [] s1 (start N vs) H _ I hq) (fun fl s' hs=>?_) fun e s' hs=>hs
 have fin:∀ {σ':St} {H':Hp} {v:V} {u:Value},Inv (cxOf CX P w K mg base N qual scope f cdv A outer s H E) [] σ' H' s'->RelV v u->Q v H'->CE outer P w H s Q u s':=
  fun {σ' H' v u} J rv q=>⟨v,H',J.os,J.bare,J.base,J.hok,rv,q⟩
 cases fl with
 | ret u=>
  obtain⟨v,σ',H',J,rv,q⟩:=hs
  exact fin J rv q
 | next=>
  obtain⟨σ',H',J,q⟩:=hs
  exact fin (v:=V.non) (u:=Value.none) J rfl q
 | brk=>
  obtain⟨_,_,_,q⟩:=hs
  exact False.elim q
 | cont=>
  obtain⟨_,_,_,q⟩:=hs
  exact False.elim q
end L2
namespace L2
open PySem PySem.Spec PyProof.Rows
section
variable {X:Cx} {x:Str} {p pos:Pos} {e:Expr} {es:List Expr} {t:TA} {id T:String} {r:List V->Hp->VK->Prop}
def tCB (r:List V->Hp->VK->Prop) (t:TA):TE:=fun σ H Q=>t σ H fun vs H1=>r vs H1 Q
theorem pe_callB (hc:CallR X (.builtin id) r) (hg:Gl X x) (hm:X.mg x=none) (hv:bootBuiltins x=some (.builtin id)) (ha:PA X (e::es) t) (hn:x ≠ "__name__" := by decide) (hdb:(x == ("__debug__" : Str))=false:=by decide)
  (he:starEach (e::es) X.env=(false,eval e X.env)::starEach es X.env:=by rfl) (hpl:(backTo pos (starEach es X.env)).any (·.1)=false:=by rfl):PE X (.Call (.Name x p) (e::es) [] pos) (tCB r t):=by
 intro pins s σ H Q I h
 refine wpAny_Call_Name_kw (ld_blt I hg hm hv ?_ hn hdb)
 exact PyProof.Rows.callWith_builtin1 (thn (ha pos pins s σ H _ I h) fun us s1 ⟨vs,H1,I1,r1,q1⟩=>hc pins s1 σ H1 vs us Q I1 r1 q1) he hpl
theorem pe_callTy (hc:CallR X (.type T) r) (hg:Gl X x) (hm:X.mg x=none) (hv:bootBuiltins x=some (.type T)) (ha:PA X (e::es) t) (hn:x ≠ "__name__" := by decide) (hdb:(x == ("__debug__" : Str))=false:=by decide)
  (he:starEach (e::es) X.env=(false,eval e X.env)::starEach es X.env:=by rfl) (hpl:(backTo pos (starEach es X.env)).any (·.1)=false:=by rfl):PE X (.Call (.Name x p) (e::es) [] pos) (tCB r t):=by
 intro pins s σ H Q I h
 refine wpAny_Call_Name_kw (ld_blt I hg hm hv ?_ hn hdb)
 exact PyProof.Rows.callWith_type1 (thn (ha pos pins s σ H _ I h) fun us s1 ⟨vs,H1,I1,r1,q1⟩=>hc pins s1 σ H1 vs us Q I1 r1 q1) he hpl
end
end L2
namespace L2
open PySem PySem.Spec PyProof.Rows
section
variable {κ:Type} [DecidableEq κ]
def valV (kvs:List (κ×V)) (k:κ):Option V:=(kvs.find? fun kv=>decide (kv.1=k)).map (·.2)
def putK (kvs:List (κ×V)) (k:κ) (v:V):List (κ×V):=
 if (kvs.any fun kv=>decide (kv.1=k))=true then kvs.map (fun kv=>if kv.1=k then (kv.1,v) else kv) else kvs++[(k,v)]
def dropK (kvs:List (κ×V)) (k:κ):List (κ×V):=kvs.filter fun kv=>decide (kv.1≠k)
theorem valV_pos {p:κ×V} {r:List (κ×V)} {k:κ} (e:p.1=k):valV (p::r) k=some p.2:=by simp[valV,List.find?_cons,e]
theorem valV_neg {p:κ×V} {r:List (κ×V)} {k:κ} (e:¬ p.1=k):valV (p::r) k=valV r k:=by simp[valV,List.find?_cons,e]
theorem valV_any (k:κ):∀ kvs:List (κ×V),(kvs.any fun kv=>decide (kv.1=k))=(valV kvs k).isSome
 | []=>rfl
 | p::r=>by
  rw[List.any_cons]
  by_cases e:p.1=k
  ·simp only[valV_pos e,decide_eq_true e,Bool.true_or,Option.isSome_some]
  ·rw[valV_neg e,decide_eq_false e,Bool.false_or]; exact valV_any k r
theorem length_putK (kvs:List (κ×V)) (k:κ) (v:V):(putK kvs k v).length<=kvs.length+1:=by
 unfold putK
 split
 ·rw[List.length_map]; omega
 ·rw[List.length_append,List.length_cons,List.length_nil]; omega
theorem putK_new {kvs:List (κ×V)} {k:κ} (v:V) (h:valV kvs k=none):putK kvs k v=kvs++[(k,v)]:=by
 unfold putK
 rw[valV_any,h]
 exact if_neg (by decide)
theorem RelO.isSome_eq {o:Option V} {u:Option Value} (r:RelO o u):o.isSome=u.isSome:=by
 cases o with
 | none=>cases u with
  | none=>rfl
  | some _=>exact (show False from r).elim
 | some _=>cases u with
  | none=>exact (show False from r).elim
  | some _=>rfl
theorem KV.val {kvs:List (κ×V)} {vs:List (κ×Value)} (r:KV kvs vs) (k:κ):RelO (valV kvs k) (valueAt vs k):=by
 unfold KV at r
 induction r with
 | nil=>exact True.intro
 | @cons p q ps qs h t ih=>
  obtain⟨h1,h2⟩:=h
  by_cases e:p.1=k
  ·have e':q.1=k:=h1.symm.trans e
   have b:valueAt (q::qs) k=some q.2:=by simp[valueAt,List.find?_cons,e']
   rw[valV_pos e,b]; exact h2
  ·have e':¬ q.1=k:=fun z=>e (h1.trans z)
   have b:valueAt (q::qs) k=valueAt qs k:=by simp[valueAt,List.find?_cons,e']
   rw[valV_neg e,b]; exact ih
theorem KV.any {kvs:List (κ×V)} {vs:List (κ×Value)} (r:KV kvs vs) (k:κ):(kvs.any fun kv=>decide (kv.1=k))=vs.any fun kv=>decide (kv.1=k):=by
 unfold KV at r
 induction r with
 | nil=>rfl
 | cons h t ih=>rw[List.any_cons,List.any_cons,ih,h.1]
theorem KV.repl {kvs:List (κ×V)} {vs:List (κ×Value)} (r:KV kvs vs) (k:κ) {y:V} {u:Value} (ry:RelV y u) :
  KV (kvs.map fun kv=>if kv.1=k then (kv.1,y) else kv) (vs.map fun kv=>if kv.1=k then (kv.1,u) else kv):=by
 unfold KV at r ⊢
 induction r with
 | nil=>exact .nil
 | @cons p q ps qs h t ih=>
  rw[List.map_cons,List.map_cons]
  refine .cons ?_ ih
  obtain⟨h1,h2⟩:=h
  by_cases e:p.1=k
  ·rw[if_pos e,if_pos (h1.symm.trans e)]; exact⟨h1,ry⟩
  ·rw[if_neg e,if_neg (fun z=>e (h1.trans z))]; exact⟨h1,h2⟩
theorem KV.put {kvs:List (κ×V)} {vs:List (κ×Value)} (r:KV kvs vs) (k:κ) {y:V} {u:Value} (ry:RelV y u):KV (putK kvs k y) (stored vs k u):=by
 unfold putK stored
 rw[r.any k]
 by_cases e:(vs.any fun kv=>decide (kv.1=k))=true
 ·rw[if_pos e,if_pos e]; exact r.repl k ry
 ·rw[if_neg e,if_neg e]; exact Paired.snoc r ⟨rfl,ry⟩
theorem KV.length {kvs:List (κ×V)} {vs:List (κ×Value)} (r:KV kvs vs):kvs.length=vs.length:=Paired.length r
theorem dropK_le (kvs:List (κ×V)) (k:κ):(dropK kvs k).length<=kvs.length:=List.length_filter_le _ _
end
theorem kV_is {P:Program} {w:World} {k:Key} {u:Value} (r:RelV (kV k) u):(mixKind P w).is k u=true:=by
 cases k with
 | inl i=>obtain⟨t,e⟩:=(show ∃ t,u=Value.int i t from r); subst e; exact mixKind_int P w i t
 | inr x=>obtain⟨t,e⟩:=(show ∃ t,u=Value.str x t from r); subst e; exact mixKind_str P w x t
theorem items_are {P:Program} {w:World}:∀ {ks:List Key} {us:List Value},Vals (ks.map kV) us->ItemsAre (mixKind P w) ks us
 | [],_,r=>by rw[List.map_nil] at r; cases r; exact .nil
 | k::ks,_,r=>by
  rw[List.map_cons] at r
  cases r with
  | cons h t=>exact .cons (kV_is h) (items_are t)
abbrev KT (H:Hp):List (List Key×V)->List (List Key×Addr×Value)->Prop:=Paired fun p q=>p.1=q.1/\H q.2.1=some (.tup (p.1.map kV))/\RelV p.2 q.2.2
theorem KT.val {H:Hp} {kvs:List (List Key×V)} {xs:List (List Key×Addr×Value)} (r:KT H kvs xs) (k:List Key):RelO (valV kvs k) ((atKey xs k).map (·.2)):=by
 induction r with
 | nil=>exact True.intro
 | @cons p q ps qs h t ih=>
  obtain⟨h1,_,h2⟩:=h
  by_cases e:p.1=k
  ·have e':q.1=k:=h1.symm.trans e
   have b:atKey (q::qs) k=some q.2:=by simp[atKey,List.find?_cons,e']
   rw[valV_pos e,b]; exact h2
  ·have e':¬ q.1=k:=fun z=>e (h1.trans z)
   have b:atKey (q::qs) k=atKey qs k:=by simp[atKey,List.find?_cons,e']
   rw[valV_neg e,b]; exact ih
theorem KT.repl {H:Hp} {kvs:List (List Key×V)} {xs:List (List Key×Addr×Value)} (r:KT H kvs xs) (k:List Key) {y:V} {u:Value} (ry:RelV y u) :
  KT H (kvs.map fun kv=>if kv.1=k then (kv.1,y) else kv) (xs.map (putAt k u)):=by
 induction r with
 | nil=>exact .nil
 | @cons p q ps qs h t ih=>
  rw[List.map_cons,List.map_cons]
  refine .cons ?_ ih
  obtain⟨h1,h2,h3⟩:=h
  unfold putAt
  by_cases e:p.1=k
  ·rw[if_pos e,if_pos (h1.symm.trans e)]; exact⟨h1,h2,ry⟩
  ·rw[if_neg e,if_neg (fun z=>e (h1.trans z))]; exact⟨h1,h2,h3⟩
theorem KT.put {H:Hp} {kvs:List (List Key×V)} {xs:List (List Key×Addr×Value)} (r:KT H kvs xs) (k:List Key) {b:Addr} {y:V} {u:Value} (hb:H b=some (.tup (k.map kV))) (ry:RelV y u) :
  KT H (putK kvs k y) (storedH xs k b u):=by
 have e:(kvs.any fun kv=>decide (kv.1=k))=(atKey xs k).isSome:=by
  rw[valV_any,(r.val k).isSome_eq,Option.isSome_map]
 unfold putK storedH
 rw[e]
 by_cases q:(atKey xs k).isSome=true
 ·rw[if_pos q,if_pos q]; exact r.repl k ry
 ·rw[if_neg q,if_neg q]; exact Paired.snoc r ⟨rfl,hb,ry⟩
theorem KT.keeps {H H':Hp} {kvs:List (List Key×V)} {xs:List (List Key×Addr×Value)} (r:KT H kvs xs) (ht:∀ b ys,H b=some (.tup ys)->H' b=some (.tup ys)):KT H' kvs xs:=
 Paired.mapP r fun _ _ z=>⟨z.1,ht _ _ z.2.1,z.2.2⟩
section
variable {P:Program} {w:World} {H:Hp} {h:Heap} {a:Addr}
theorem rd_of {u:HO} (ok:HOk P w H h) (e:Rd H a u):ObjOk P w H h a u:=e.ok ok
theorem dk_rd {kvs:List (Key×V)} (ok:HOk P w H h) (e:Rd H a (.dK kvs)):kvs.length<=sizeLine/\(a == sysModules)=false/\∃ vs,KV kvs vs/\h.DictOf (mixKind P w) a vs:=
 show ObjOk P w H h a (.dK kvs) from rd_of ok e
theorem dk_of {kvs:List (Key×V)} (ok:HOk P w H h) (e:H a=some (.dK kvs)):kvs.length<=sizeLine/\(a == sysModules)=false/\∃ vs,KV kvs vs/\h.DictOf (mixKind P w) a vs:=dk_rd ok (.inl e)
theorem key_of {ks:List Key} (ok:HOk P w H h) (e:H a=some (.tup (ks.map kV))):(tupleKind (mixKind P w)).is h ks a:=by
 obtain⟨_,its,r,o,h1,h2,n,h3⟩:=(show ObjOk P w H h a (.tup (ks.map kV)) from ok a _ e)
 exact⟨o,its.toArray,n,h1,h2,h3,by simpa using items_are r⟩
theorem dt_rd {kvs:List (List Key×V)} (ok:HOk P w H h) (e:Rd H a (.dT kvs)):kvs.length<=sizeLine/\(a == sysModules)=false /\
  ∃ xs,KT H kvs xs/\h.DictOfH (tupleKind (mixKind P w)) a xs:=by
 obtain⟨z,y,xs,r,o,es,ep,h1,h2,h3,h4,h5⟩:=(show ObjOk P w H h a (.dT kvs) from rd_of ok e)
 refine⟨z,y,xs,r,o,es,ep,h1,h2,h3,h4,fun x hx=>?_,h5⟩
 have all:∀ {l:List (List Key×V)} {m:List (List Key×Addr×Value)},KT H l m->∀ x∈m,(tupleKind (mixKind P w)).is h x.1 x.2.1:=by
  intro l m q
  induction q with
  | nil=>intro x hx; exact nomatch hx
  | @cons p q ps qs hq t ih=>
   intro x hx
   rcases List.mem_cons.mp hx with e | hx
   ·subst e
    exact key_of ok (by rw[<-hq.1]; exact hq.2.1)
   ·exact ih x hx
 exact all r x hx
theorem dt_of {kvs:List (List Key×V)} (ok:HOk P w H h) (e:H a=some (.dT kvs)):kvs.length<=sizeLine/\(a == sysModules)=false /\
  ∃ xs,KT H kvs xs/\h.DictOfH (tupleKind (mixKind P w)) a xs:=dt_rd ok (.inl e)
end
def DGet (H:Hp) (a:Addr) (y:V) (r:Option V):Prop:=
 (∃ kvs k,Rd H a (.dK kvs)/\y=kV k/\r=valV kvs k)\/∃ kvs k b,Rd H a (.dT kvs)/\y=.ref b/\H b=some (.tup (k.map kV))/\r=valV kvs k
def DPut (H:Hp) (a:Addr) (y v:V) (H':Hp):Prop:=
 (∃ kvs k,H a=some (.dK kvs)/\y=kV k/\kvs.length<sizeLine/\H'=upd H a (.dK (putK kvs k v))) \/
 ∃ kvs k b,H a=some (.dT kvs)/\y=.ref b/\H b=some (.tup (k.map kV))/\kvs.length<sizeLine/\H'=upd H a (.dT (putK kvs k v))
theorem DGet.t {H:Hp} {a b:Addr} {kvs:List (List Key×V)} {k:List Key} (e:H a=some (.dT kvs)) (eb:H b=some (.tup (k.map kV))):DGet H a (.ref b) (valV kvs k):=.inr ⟨kvs,k,b,.inl e,rfl,eb,rfl⟩
theorem DPut.t {H:Hp} {a b:Addr} {kvs:List (List Key×V)} {k:List Key} {v:V} (e:H a=some (.dT kvs)) (eb:H b=some (.tup (k.map kV))) (hl:kvs.length<sizeLine) :
  DPut H a (.ref b) v (upd H a (.dT (putK kvs k v))):=.inr ⟨kvs,k,b,e,rfl,eb,hl,rfl⟩
section
variable {X:Cx} {pins:List (Addr×Obj)} {σ:St} {H:Hp} {s:Shared} {a:Addr} {y v:V} {u r:Value} {o:Option V} {A:Around} {E:Value->Shared->Prop}
theorem Inv.big (I:Inv X pins σ H s):sysModules<s.heap.objs.size:=by
 have h:mainGlobals<s.heap.objs.size:=(I.mod.glob.keeps I.bk).lt
 exact Nat.lt_trans (by decide) h
theorem d_in {Q:Value->Shared->Prop} (hu:A.units+1<cLine) (I:Inv X pins σ H s) (g:DGet H a y o) (ry:RelV y u) (h:∀ s',Inv X pins σ H s'->Q (.bool o.isSome) s') :
  wpAny (model X.prog X.w) A (compareOp .In u (.ref a)) Q E s:=by
 rcases g with ⟨kvs,k,e,ey,l⟩ | ⟨kvs,k,b,e,ey,eb,l⟩
 ·subst ey
  obtain⟨z,hd,vs,rel,dd⟩:=dk_rd I.hok e
  refine wpAny_in_of (kV_is ry) hd dd.mapOf ?_
  rw[<-(rel.val k).isSome_eq,← l]
  exact h _ (I.tok _)
 ·subst ey
  cases (show u=Value.ref b from ry)
  obtain⟨z,hd,xs,rel,dd⟩:=dt_rd I.hok e
  refine wpAny_in_heap (tupleKind_room_in1 hu) (key_of I.hok eb) hd dd ?_
  have q:=(rel.val k).isSome_eq
  rw[Option.isSome_map] at q
  rw[<-q,← l]
  exact h _ (I.tok _)
theorem d_notIn {Q:Value->Shared->Prop} (hu:A.units+1<cLine) (I:Inv X pins σ H s) (g:DGet H a y o) (ry:RelV y u) (h:∀ s',Inv X pins σ H s'->Q (.bool (!o.isSome)) s') :
  wpAny (model X.prog X.w) A (compareOp .NotIn u (.ref a)) Q E s:=by
 rcases g with ⟨kvs,k,e,ey,l⟩ | ⟨kvs,k,b,e,ey,eb,l⟩
 ·subst ey
  obtain⟨z,hd,vs,rel,dd⟩:=dk_rd I.hok e
  refine wpAny_notIn_of (kV_is ry) hd dd.mapOf ?_
  rw[<-(rel.val k).isSome_eq,← l]
  exact h _ (I.tok _)
 ·subst ey
  cases (show u=Value.ref b from ry)
  obtain⟨z,hd,xs,rel,dd⟩:=dt_rd I.hok e
  refine wpAny_notIn_heap (tupleKind_room_in1 hu) (key_of I.hok eb) hd dd ?_
  have q:=(rel.val k).isSome_eq
  rw[Option.isSome_map] at q
  rw[<-q,← l]
  exact h _ (I.tok _)
theorem d_write {h':Heap} {t':Nat} {ob:HO} (I:Inv X pins σ H s) (mu:Mut (H a)) (hs:Heap.SameBut a s.heap h') (he:∃ q,h'.get? a=some q) (new:ObjOk X.prog X.w (upd H a ob) h' a ob) :
  Inv X pins σ (upd H a ob) { s with heap:=h',toks:=t' }:=
 I.write (x:=a) (e:=a) mu (.inl rfl) (fun b q hb z=>(hs.2 b hb).trans z) he new
theorem dk_new {P:Program} {w:World} {H':Hp} {h':Heap} {kvs:List (Key×V)} {vs:List (Key×Value)} (z:kvs.length<=sizeLine) (hd:(a == sysModules)=false) (rel:KV kvs vs) (dd:h'.DictOf (mixKind P w) a vs) :
  ObjOk P w H' h' a (.dK kvs):=⟨z,hd,vs,rel,dd⟩
theorem d_setItem {H':Hp} {Q:Unit->Shared->Prop} (hu:A.units+1<cLine) (I:Inv X pins σ H s) (g:DPut H a y v H') (ry:RelV y u) (rv:RelV v r) (h:∀ s',Inv X pins σ H' s'->Q () s') :
  wpAny (model X.prog X.w) A (setItem (.ref a) u r) Q E s:=by
 rcases g with ⟨kvs,k,e,ey,l,eH⟩ | ⟨kvs,k,b,e,ey,eb,l,eH⟩
 ·subst ey eH
  obtain⟨z,hd,vs,rel,dd⟩:=dk_of I.hok e
  have hz:vs.length<=sizeLine:=by rw[<-rel.length]; exact z
  have hl:(putK kvs k v).length<=sizeLine:=by have:=length_putK kvs k v; omega
  refine wpAny_setItem_pairs (hsz:=hz) (kV_is ry) dd fun h' dd' hs=>h _ ?_
  have he:∃ q,h'.get? a=some q:=let ⟨q,_,_,hq,_⟩:=dd'; ⟨q,hq⟩
  exact d_write I (by rw[e]; exact True.intro) hs he (dk_new hl hd (rel.put k rv) dd')
 ·subst ey eH
  cases (show u=Value.ref b from ry)
  obtain⟨z,hd,xs,rel,dd⟩:=dt_of I.hok e
  have hz:xs.length<=sizeLine:=by rw[<-Paired.length rel]; exact z
  have hl:(putK kvs k v).length<=sizeLine:=by have:=length_putK kvs k v; omega
  refine wpAny_setItem_heap (hsz:=hz) (tupleKind_room_in1 hu) (key_of I.hok eb) dd fun h' dd' hs=>h _ ?_
  obtain⟨q,es,ep,hq,h2,h3,h4,_,h5⟩:=dd'
  refine d_write I (by rw[e]; exact True.intro) hs ⟨q,hq⟩ ⟨hl,hd,_,(rel.put k eb rv).keeps fun c ys ec=>?_,q,es,ep,hq,h2,h3,h4,h5⟩
  rw[upd_ne (ne_of ec e (fun z=>nomatch z))]
  exact ec
end
section
variable {X:Cx} {pins:List (Addr×Obj)} {σ:St} {H:Hp} {s:Shared} {a:Addr} {kvs:List (Key×V)} {k:Key} {u:Value} {A:Around} {E:Value->Shared->Prop}
end
def tDIn (ty td:TE):TE:=fun σ H Q=>ty σ H fun y H1=>td σ H1 fun x H2=>∃ a o,x=.ref a/\DGet H2 a y o/\Q (.bl o.isSome) H2
def tDNotIn (ty td:TE):TE:=fun σ H Q=>ty σ H fun y H1=>td σ H1 fun x H2=>∃ a o,x=.ref a/\DGet H2 a y o/\Q (.bl (!o.isSome)) H2
def sDPut (td ty tv:TE):TS:=fun D σ H=>tv σ H fun v H1=>td σ H1 fun x H2=>ty σ H2 fun y H3=>∃ a H4,x=.ref a/\DPut H3 a y v H4/\D.nx σ H4
section
variable {X:Cx} {o i e value:Expr} {pos pos' tpos:Pos} {td ty tv:TE}
theorem pc_din (hu:X.A.units+1<cLine) (hi:PE X i ty) (ho:PE X o td):PC X .In i o (tDIn ty td):=by
 intro pins s σ H Q I h
 refine thn (hi pins s σ H _ I h) fun iv s1 ⟨y,H1,I1,ry,q1⟩=>thn (ho pins s1 σ H1 _ I1 q1) fun u s2 ⟨x,H2,I2,rx,a,ov,ex,g,q2⟩=>?_
 subst ex
 obtain rfl:u=Value.ref a:=rx
 exact d_in hu I2 g ry fun s3 I3=>⟨.bl ov.isSome,H2,I3,rfl,q2⟩
theorem pc_dnotin (hu:X.A.units+1<cLine) (hi:PE X i ty) (ho:PE X o td):PC X .NotIn i o (tDNotIn ty td):=by
 intro pins s σ H Q I h
 refine thn (hi pins s σ H _ I h) fun iv s1 ⟨y,H1,I1,ry,q1⟩=>thn (ho pins s1 σ H1 _ I1 q1) fun u s2 ⟨x,H2,I2,rx,a,ov,ex,g,q2⟩=>?_
 subst ex
 obtain rfl:u=Value.ref a:=rx
 exact d_notIn hu I2 g ry fun s3 I3=>⟨.bl (!ov.isSome),H2,I3,rfl,q2⟩
theorem ps_dput (hu:X.A.units+1<cLine) (ho:PE X o td) (hi:PE X i ty) (hv:PE X value tv) (hs:swapsWith value (some (.Subscript o i pos')) pos.line X.env=pure false) :
  PS X (.Assign [.Subscript o i pos'] value pos) (sDPut td ty tv):=by
 intro pins s σ H D I h
 refine wpAny_Assign_Subscript (thn (hv pins s σ H _ I h) fun r s1 ⟨v,H1,I1,rv,q1⟩=>thn (ho pins s1 σ H1 _ I1 q1) fun u s2 ⟨x,H2,I2,rx,q2⟩=>thn (hi pins s2 σ H2 _ I2 q2) fun iv s3 ⟨y,H3,I3,ry,a,H4,ex,g,q3⟩=>?_) hs
 subst ex
 obtain rfl:u=Value.ref a:=rx
 exact d_setItem hu I3 g ry rv fun s4 I4=>⟨σ,H4,I4,q3⟩
end
theorem dt_empty {P:Program} {w:World} {H:Hp} (h:Heap) (hb:sysModules<h.objs.size):ObjOk P w H (h.push { cls:=.type "dict",data:=.dict #[] }) h.objs.size (.dT []):=
 ⟨Nat.zero_le _,beq_eq_false_iff_ne.mpr (Ne.symm (Nat.ne_of_lt hb)),[],.nil,_,#[],0,Heap.get?_push_size _ rfl,⟨rfl,rfl,rfl⟩,rfl,rfl,List.nodup_nil⟩
def tDNewT:TE:=fun _ H Q=>∀ p,H p=none->Q (.ref p) (upd H p (.dT []))
section
variable {X:Cx} {pos:Pos}
theorem pe_dnewT:PE X (.Dict [] [] pos) tDNewT:=fun pins s σ H Q I h=>
 wpAny_Dict_empty ⟨.ref s.heap.objs.size,_,I.laid (a:=s.heap.objs.size) (o:=.dT []) (t':=s.toks) (fun _ _ q=>Heap.get?_push_of_some _ q) (Nat.le_refl _) (dt_empty s.heap I.big),rfl,h _ (I.hok.fresh (Nat.le_refl _))⟩
end
abbrev VV:List (V×V)->List (Value×Value)->Prop:=Paired fun p q=>RelV p.1 q.1/\RelV p.2 q.2
structure M1 (X:Cx) (o:Expr) (m:Str) (apos:Pos) (e:Expr) (cpos:Pos):Prop where
 base:attributeBase o m X.env (eval o X.env)=eval o X.env
 few:((backTo cpos (starEach [e] X.env)).all (fun x=>!x.1)&&(backToKw cpos (keywordEach [] X.env)).all (fun x=>x.1.isSome)
  && decide (([e]:List Expr).length+([]:List Keyword).length+(if ([]:List Keyword).isEmpty then 0 else 1)<30))=true
 line:(apos.endLine == cpos.line)=true
 trees:backTo cpos (starEach [e] X.env)=[(false,eval e X.env)]
def IsD (H:Hp) (a:Addr):Prop:=(∃ kvs,Rd H a (.dK kvs))\/∃ kvs,Rd H a (.dT kvs)
theorem isD_at {X:Cx} {pins:List (Addr×Obj)} {σ:St} {H:Hp} {s:Shared} {a:Addr} (I:Inv X pins σ H s) (d:IsD H a) :
  s.TypeIs (.ref a) "dict" /\ (∀ b,Value.ref a=.ref b->∃ ob,s.heap.get? b=some ob/\ob.dict=none)/\(a == sysModules)=false:=by
 rcases d with ⟨kvs,e⟩ | ⟨kvs,e⟩
 ·obtain⟨_,hd,vs,_,dd⟩:=dk_rd I.hok e
  refine⟨dd.typeIs,fun b q=>?_,hd⟩
  cases q
  obtain⟨ob,_,_,h1,h2,_⟩:=dd
  exact⟨ob,h1,h2.2.1⟩
 ·obtain⟨_,hd,xs,_,dd⟩:=dt_rd I.hok e
  refine⟨dd.typeIs,fun b q=>?_,hd⟩
  cases q
  obtain⟨ob,_,_,h1,h2,_⟩:=dd
  exact⟨ob,h1,h2.2.1⟩
section
variable {X:Cx} {pins:List (Addr×Obj)} {σ:St} {H:Hp} {s:Shared} {a:Addr} {y d:V} {u r:Value} {o:Option V} {A:Around} {E:Value->Shared->Prop}
end
section
variable {X:Cx} {o e f:Expr} {apos cpos:Pos} {td ty tx:TE}
end
section
variable {X:Cx} {pins:List (Addr×Obj)} {σ:St} {H:Hp} {s:Shared} {a:Addr} {kvs:List (Key×V)} {A:Around} {E:Value->Shared->Prop}
end
section
variable {X:Cx} {pins:List (Addr×Obj)} {σ:St} {H:Hp} {s:Shared} {a:Addr} {y:V} {u:Value} {A:Around} {E:Value->Shared->Prop}
end
end L2
namespace HT
open PySem PyProof.Rows
section
open PySem.SeqAt
open PySem.AutoSeq1 (wpAny_loadPart')
open PySem.MeetsSeq PySem.MeetsSeq2 PySem.MeetsSeq3
end
section
variable {prog:Program} {w:World} {A:Around} {E:Value->Shared->Prop} {s:Shared}
def sIx (n d:Nat):Option Int->Nat
 | none=>d
 | some v=>if v<0 then (v+(n:Int)).toNat else min v.toNat n
end
end HT
namespace L2
open PySem PySem.Spec PyProof.Rows
abbrev TO:=St->Hp->(Option Int->Hp->Prop)->Prop
def PO (X:Cx) (e:Option Expr) (t:TO):Prop:=
 ∀ (pins:List (Addr×Obj)) (s:Shared) (σ:St) (H:Hp) (Q:Option Int->Hp->Prop),Inv X pins σ H s->t σ H Q ->
  wpAny (model X.prog X.w) X.A (evalPart e X.env) (fun u s'=>∃ o H',Inv X pins σ H' s'/\IsPart u o/\Q o H') X.xe s
def tNoPart:TO:=fun _ H Q=>Q none H
def tPart (t:TE):TO:=fun σ H Q=>t σ H fun x H1=>∃ i,x=.int i/\Q (some i) H1
theorem intsAre_of {ns:List Int}:∀ {us:List Value},Vals (ns.map V.int) us->IntsAre us ns:=by
 induction ns with
 | nil=>intro us r; rw[List.map_nil] at r; cases r; exact .nil
 | cons n ns ih=>
  intro us r
  rw[List.map_cons] at r
  cases r with
  | cons r1 r2=>
   obtain⟨t,e⟩:=r1
   subst e
   exact .cons n t (ih r2)
section
variable {X:Cx} {e:Expr} {te:TE} {lo hi:Option Expr} {tl th:TO} {pos p2:Pos}
theorem po_none:PO X none tNoPart:=by
 intro pins s σ H Q I h
 rw[evalPart_none]
 exact wpAny_pure ⟨none,H,I,.none,h⟩
theorem po_some (h:PE X e te):PO X (some e) (tPart te):=by
 intro pins s σ H Q I hw
 rw[evalPart_some]
 refine thn (h pins s σ H _ I hw) fun u s1 ⟨x,H1,I1,r1,q1⟩=>?_
 obtain⟨i,rfl,q⟩:=q1
 obtain⟨t,rfl⟩:=r1
 exact⟨some i,H1,I1,.int i t,q⟩
def SlR (X:Cx) (r:V->Option Int->Option Int->Hp->VK->Prop):Prop:=
 ∀ (pins:List (Addr×Obj)) (s:Shared) (σ:St) (H:Hp) (x:V) (v vl vu:Value) (lo hi:Option Int) (sl:Addr) (Q:VK),Inv X pins σ H s->RelV x v->s.heap.IsSliceOf sl vl vu .none->IsPart vl lo->IsPart vu hi->r x lo hi H Q ->
  ∃ T id,typeLookup (.type T) "__getitem__" = pure (some (.builtin id))/\s.TypeIs v T/\wpAny (model X.prog X.w) X.A (getItem v (.ref sl)) (EP X pins σ Q) X.xe s
def tSl (r:V->Option Int->Option Int->Hp->VK->Prop) (te:TE) (tl th:TO):TE:=fun σ H Q=>te σ H fun x H1=>tl σ H1 fun l H2=>th σ H2 fun u H3=>r x l u H3 Q
theorem pe_slice {r:V->Option Int->Option Int->Hp->VK->Prop} (hr:SlR X r) (he:PE X e te) (hl:PO X lo tl) (hu:PO X hi th):PE X (.Subscript e (.Slice lo hi none p2) pos) (tSl r te tl th):=by
 intro pins s σ H Q I h
 refine Subscript_ (thn (he pins s σ H _ I h) fun v s1 ⟨x,H1,I1,r1,q1⟩=>?_)
 refine wpAny_Slice (thn (hl pins s1 σ H1 _ I1 q1) fun vl s2 ⟨l,H2,I2,pl,q2⟩=>thn (hu pins s2 σ H2 _ I2 q2) fun vu s3 ⟨u,H3,I3,pu,q3⟩=>?_)
 rw[evalPart_none]
 refine wpAny_pure ?_
 have I4:Inv X pins σ H3 { s3 with heap:=s3.heap.push { cls:=.type "slice",data:=.fields #[vl,vu,.none] } }:=I3.kept (t':=s3.toks) fun b ob q=>Heap.get?_push_of_some _ q
 obtain⟨T,id,hT,ht,hg⟩:=hr pins { s3 with heap:=s3.heap.push { cls:=.type "slice",data:=.fields #[vl,vu,.none] } } σ H3 x v vl vu l u s3.heap.objs.size Q I4 r1 (Heap.IsSliceOf.new ..) pl pu q3
 show wpAny (model X.prog X.w) X.A (subscriptTail e (.Slice lo hi none p2) v (.ref s3.heap.objs.size)) (EP X pins σ Q) X.xe { s3 with heap:=s3.heap.push { cls:=.type "slice",data:=.fields #[vl,vu,.none] } }
 exact tail_any (ops:=[.ref s3.heap.objs.size,v]) ht hT hg (by with_unfolding_all rfl)
def cutV (xs:List V) (lo hi:Option Int):List V:=(xs.drop (HT.sIx xs.length 0 lo)).take (HT.sIx xs.length xs.length hi-HT.sIx xs.length 0 lo)
theorem cutV_length (xs:List V) (lo hi:Option Int):(cutV xs lo hi).length<=xs.length:=by
 unfold cutV
 rw[List.length_take,List.length_drop]
 omega
end
end L2
namespace L2
open PySem PySem.Spec PyProof.Rows
def ixN (n:Nat) (i:Int):Option Nat:=if 0<=i then (if i<n then some i.toNat else none) else if -(n:Int)<=i then some (i+n).toNat else none
def atI {α:Type} (xs:List α) (i:Int):Option α:=(ixN xs.length i).bind fun j=>xs[j]?
theorem ixN_seq {n:Nat} {i:Int} {j:Nat} (h:ixN n i=some j):seqIndex? i n=some j/\j<n /\ -(n:Int)<=i/\i<n:=by
 unfold ixN at h
 by_cases h0:0<=i
 ·rw[if_pos h0] at h
  by_cases h1:i<n
  ·rw[if_pos h1] at h
   have e:i.toNat=j:=Option.some.inj h
   exact⟨by rw[seqIndex_of h0 h1,e],by omega,by omega,h1⟩
  ·rw[if_neg h1] at h; cases h
 ·rw[if_neg h0] at h
  by_cases h1:-(n:Int)<=i
  ·rw[if_pos h1] at h
   have e:(i+n).toNat=j:=Option.some.inj h
   exact⟨by rw[seqIndex_neg (by omega) h1,e],by omega,h1,by omega⟩
  ·rw[if_neg h1] at h; cases h
theorem atI_get {α:Type} {xs:List α} {i:Int} {v:α} (h:atI xs i=some v):∃ j,seqIndex? i xs.length=some j/\xs[j]?=some v/\j<xs.length /\ -(xs.length:Int)<=i/\i<xs.length:=by
 unfold atI at h
 cases e:ixN xs.length i with
 | none=>rw[e] at h; cases h
 | some j=>
  rw[e] at h
  obtain⟨h1,h2,h3,h4⟩:=ixN_seq e
  exact⟨j,h1,h,h2,h3,h4⟩
theorem atI_nat {α:Type} {xs:List α} {j:Nat} {v:α} (h:xs[j]?=some v):atI xs (j:Int)=some v:=by
 have hj:j<xs.length:=(List.getElem?_eq_some_iff.mp h).1
 have e:ixN xs.length (j:Int)=some j:=by
  unfold ixN
  rw[if_pos (by omega),if_pos (by omega)]; simp
 unfold atI; rw[e]; exact h
def PlainIx (b:Expr):Prop:=∀ o i,subscripted b false o i=operate [o,i] (getItem o i)
def IxR (X:Cx) (r:R2):Prop:=
 ∀ (value slice:Expr) (pins:List (Addr×Obj)) (s:Shared) (σ:St) (H:Hp) (x y:V) (v u:Value) (Q:VK),Inv X pins σ H s->RelV x v->RelV y u->r x y H Q ->
  subscripted slice false v u=operate [v,u] (getItem v u)->wpAny (model X.prog X.w) X.A (subscriptTail value slice v u) (EP X pins σ Q) X.xe s
def MtR (X:Cx) (id:String) (r:V->List V->Hp->VK->Prop):Prop:=
 ∀ (pins:List (Addr×Obj)) (s:Shared) (σ:St) (H:Hp) (x:V) (xs:List V) (v:Value) (us:List Value) (Q:VK),Inv X pins σ H s->RelV x v->Vals xs us->r x xs H Q ->
  wpAny (model X.prog X.w) X.A (call (.builtin id) (v::us)) (EP X pins σ Q) X.xe s
section
variable {X:Cx} {a b:Expr} {ta tb:TE} {pos:Pos}
theorem pe_ix {r:R2} (hr:IxR X r) (ha:PE X a ta) (hb:PE X b tb) (hs:PlainIx b):PE X (.Subscript a b pos) (tOp r ta tb):=by
 intro pins s σ H Q I h
 exact Subscript_ (binT ha hb I h fun v u s2 x y H2 I2 rx ry q=>hr a b pins s2 σ H2 x y v u Q I2 rx ry q (hs _ _))
def rIxL (K:PySem.W.Frag):R2:=fun x y H Q=>∃ p xs i v,x=.ref p/\y=.int i/\SqL K H p xs/\atI xs i=some v/\Q v H
def rIxT (K:PySem.W.Frag):R2:=fun x y H Q=>∃ p xs i v,x=.ref p/\y=.int i/\SqT K H p xs/\atI xs i=some v/\Q v H
theorem ix_list:IxR X (rIxL X.K):=by
 intro value slice pins s σ H x y v u Q I rx ry h hs
 obtain⟨p,xs,i,z,rfl,rfl,hq,he,q⟩:=h
 cases rx
 obtain⟨t,rfl⟩:=ry
 obtain⟨its,r,pl,hz⟩:=I.list hq
 obtain⟨j,h1,h2,h3,h4,h5⟩:=atI_get he
 obtain⟨w,ew,rw'⟩:=r.get h2
 have hl:=r.length
 have hn:=line63
 have fin:EP X pins σ Q w s:=⟨z,H,I,rw',q⟩
 by_cases h0:0<=i
 ·have hj:i.toNat=j:=by
   rw[seqIndex_of h0 h5] at h1
   exact Option.some.inj h1
  exact item_listR pl.isList h0 (by omega) (by rw[hj]; simpa using ew) fin hs
 ·have hj:(i+(its.toArray.size:Int)).toNat=j:=by
   rw[seqIndex_neg (by omega) h4] at h1
   rw[List.size_toArray,← hl]
   exact Option.some.inj h1
  exact subscriptTail_builtinR (x:=w) pl.isList.typeIs slot_list_getitem.lookup
   (wpAny_getItem_list_neg (Q:=fun r s'=>r=w/\EP X pins σ Q r s') pl.isList (by omega) (by rw[List.size_toArray] <;> omega) (by omega) (by rw[hj]; simpa using ew) ⟨rfl,fin⟩) hs
theorem ix_tup:IxR X (rIxT X.K):=by
 intro value slice pins s σ H x y v u Q I rx ry h hs
 obtain⟨p,xs,i,z,rfl,rfl,hq,he,q⟩:=h
 cases rx
 obtain⟨t,rfl⟩:=ry
 obtain⟨its,r,pl,hz⟩:=I.tuple hq
 obtain⟨j,h1,h2,h3,h4,h5⟩:=atI_get he
 obtain⟨w,ew,rw'⟩:=r.get h2
 have hl:=r.length
 have hn:=line63
 have fin:EP X pins σ Q w s:=⟨z,H,I,rw',q⟩
 exact subscriptTail_builtinR (x:=w) pl.typeIs slot_tuple_getitem.lookup
  (getItem_tuple (j:=j) (Q:=fun r s'=>r=w/\EP X pins σ Q r s') pl (by omega) (by omega) (by rw[List.size_toArray,← hl]; exact h1) (by simpa using ew) ⟨rfl,fin⟩) hs
theorem mapSeq_set (its:List Value) (n j:Nat) (u:Value):Obj.mapSeq (·.setIfInBounds j u) { cls:=.type "list",data:=.seq its.toArray n }={ cls:=.type "list",data:=.seq (its.set j u).toArray n }:=by
 simp[Obj.mapSeq]
theorem Inv.lst {pins:List (Addr×Obj)} {σ:St} {H:Hp} {s:Shared} {p:Addr} {xs:List V} (I:Inv X pins σ H s) (h:H p=some (.lst xs)) :
  ∃ (its:List Value) (n:Nat),Vals xs its/\s.heap.get? p=some { cls:=.type "list",data:=.seq its.toArray n }/\xs.length<=sizeLine:=by
 obtain⟨z,its,n,r,e⟩:=I.hok p _ h
 exact⟨its,n,r,e,z⟩
theorem Inv.lstUpd {pins:List (Addr×Obj)} {σ:St} {H:Hp} {s:Shared} {p:Addr} {xs ys:List V} {its its':List Value} {n n':Nat} {f:Obj->Obj} (I:Inv X pins σ H s) (h:H p=some (.lst xs))
  (ho:s.heap.get? p=some { cls:=.type "list",data:=.seq its.toArray n }) (hf:f { cls:=.type "list",data:=.seq its.toArray n }={ cls:=.type "list",data:=.seq its'.toArray n' }) (r:Vals ys its') (hz:ys.length<=sizeLine) (t:Nat) :
  Inv X pins σ (upd H p (.lst ys)) { s with heap:=s.heap.update p f,toks:=t }:=by
 have e:(s.heap.update p f).get? p=some { cls:=.type "list",data:=.seq its'.toArray n' }:=by
  rw[Heap.get?_update_self f ho (by rw[hf] <;> rfl),hf]
 refine I.write (x:=p) (e:=p) (by rw[h]; trivial) (.inl rfl) (fun b u hb q=>(Heap.get?_update_other _ _ (Ne.symm hb)).trans q) ⟨_,e⟩ ?_
 exact⟨hz,its',n',r,e⟩
def rSetL:V->V->V->Hp->(Hp->Prop)->Prop:=fun o i v H Q=>∃ p xs k j,o=.ref p/\i=.int k/\H p=some (.lst xs)/\ixN xs.length k=some j/\Q (upd H p (.lst (xs.set j v)))
theorem set_list:PSet X rSetL:=by
 intro pins s σ H o i v ov iv u Q I ro ri rv h
 obtain⟨p,xs,k,j,rfl,rfl,hp,hj,q⟩:=h
 cases ro
 obtain⟨t,rfl⟩:=ri
 obtain⟨its,n,r,ho,hz⟩:=I.lst hp
 obtain⟨h1,h2,h3,h4⟩:=ixN_seq hj
 have hl:=r.length
 have hn:=line63
 have I':Inv X pins σ (upd H p (.lst (xs.set j v))) { s with heap:=s.heap.update p (Obj.mapSeq (·.setIfInBounds j u)) }:=
  I.lstUpd hp ho (mapSeq_set its n j u) (r.set rv j) (by rw[List.length_set]; exact hz) s.toks
 by_cases h0:0<=k
 ·have hk:k.toNat=j:=by
   rw[seqIndex_of h0 h4] at h1
   exact Option.some.inj h1
  exact PySem.W.ki_setAt ho h0 (by omega) (by rw[List.size_toArray,← hl]; exact h4) (by rw[hk]; exact⟨_,I',q⟩)
 ·have hk:(k+(its.toArray.size:Int)).toNat=j:=by
   rw[seqIndex_neg (by omega) h3] at h1
   rw[List.size_toArray,← hl]
   exact Option.some.inj h1
  exact PySem.W.ki_setBack ho (by omega) (by rw[List.size_toArray,← hl]; exact h3) (by omega) (by rw[hk]; exact⟨_,I',q⟩)
theorem slice_bounds (lo hi:Option Int) (n:Nat):(sliceBounds lo hi none n).1=((HT.sIx n 0 lo:Nat):Int)/\(sliceBounds lo hi none n).2.1=((HT.sIx n n hi:Nat):Int)/\(sliceBounds lo hi none n).2.2=1:=by
 refine⟨?_,?_,rfl⟩
 ·cases lo with
  | none=>simp[sliceBounds,HT.sIx]
  | some i=>
   simp only[sliceBounds,HT.sIx,Option.getD_none,show (1:Int)>0 by decide,if_true]
   by_cases h:i<0
   ·simp only[h,if_true] <;> omega
   ·simp only[h,if_false] <;> omega
 ·cases hi with
  | none=>simp[sliceBounds,HT.sIx]
  | some i=>
   simp only[sliceBounds,HT.sIx,Option.getD_none,show (1:Int)>0 by decide,if_true]
   by_cases h:i<0
   ·simp only[h,if_true] <;> omega
   ·simp only[h,if_false] <;> omega
theorem slicePick_cut (its:List Value) (lo hi:Option Int):slicePick its.toArray lo hi none=((its.drop (HT.sIx its.length 0 lo)).take (HT.sIx its.length its.length hi-HT.sIx its.length 0 lo)).toArray:=by
 obtain⟨h1,h2,h3⟩:=slice_bounds lo hi its.toArray.size
 unfold slicePick
 rw[h1,h2,h3]
 simp only[sliceRange_one,pick_run,List.size_toArray] <;> rfl
def rSlL (K:PySem.W.Frag):V->Option Int->Option Int->Hp->VK->Prop:=fun x lo hi H Q=>∃ a xs,x=.ref a/\SqL K H a xs/\∀ p,H p=none->Q (.ref p) (upd H p (.lst (cutV xs lo hi)))
theorem sl_list:SlR X (rSlL X.K):=by
 intro pins s σ H x v vl vu lo hi sl Q I rx hs pl pu h
 obtain⟨a,xs,rfl,hx,q⟩:=h
 cases rx
 obtain⟨its,r,ht,hz⟩:=I.list hx
 have hlen:=r.length
 refine⟨"list",_,slot_list_getitem.lookup,ht.isList.typeIs,?_⟩
 refine wpAny_getItem_list_slice ht.isList hs pl pu .none (by simp) ?_ (by rw[List.size_toArray] <;> omega)
 rw[slicePick_cut,← hlen]
 refine⟨.ref s.heap.objs.size,_,I.laid (t':=s.toks) (o:=.lst (cutV xs lo hi)) (fun b ob q=>Heap.get?_push_of_some _ q) (Nat.le_refl _) ?_,rfl,q _ (I.hok.fresh (Nat.le_refl _))⟩
 exact⟨Nat.le_trans (cutV_length xs lo hi) hz,_,0,(r.drop (HT.sIx xs.length 0 lo)).take (HT.sIx xs.length xs.length hi-HT.sIx xs.length 0 lo),Heap.get?_push_size _ rfl⟩
theorem call_len_seq:CallR X (.builtin "len") (fun xs H Q=>∃ p ys,xs=[.ref p]/\(SqL X.K H p ys\/SqT X.K H p ys)/\Q (.int ys.length) H):=by
 intro pins s σ H xs us Q I r h
 obtain⟨p,ys,rfl,hq,q⟩:=h
 obtain⟨u,rfl,rx⟩:=vals1 r
 cases rx
 have hn:=line63
 rcases hq with hq | hq
 ·obtain⟨its,r',pl,hz⟩:=I.list hq
  have hlen:=r'.length
  exact Calls.call_len_list pl.isList (by simp only[List.size_toArray] <;> omega) ⟨.int ys.length,H,I.tok _,⟨s.toks+1,by rw[List.size_toArray,hlen]⟩,q⟩
 ·obtain⟨its,r',pl,hz⟩:=I.tuple hq
  have hlen:=r'.length
  exact len_tuple pl (by simp only[List.size_toArray] <;> omega) ⟨.int ys.length,H,I.tok _,⟨s.toks+1,by rw[List.size_toArray,hlen]⟩,q⟩
theorem call_list_of:CallR X (.type "list") (fun xs H Q=>∃ p ys,xs=[.ref p]/\(SqL X.K H p ys\/SqT X.K H p ys)/\∀ l,H l=none->Q (.ref l) (upd H l (.lst ys))):=by
 intro pins s σ H xs us Q I r h
 obtain⟨p,ys,rfl,hq,q⟩:=h
 obtain⟨u,rfl,rx⟩:=vals1 r
 cases rx
 have fin:∀ (its:List Value),Vals ys its->ys.length<=sizeLine->∀ (h':Heap) (c':Nat),(∀ b o',s.heap.get? b=some o'->h'.get? b=some o') ->
   h'.get? s.heap.objs.size=some { cls:=.type "list",dict:=none,data:=.seq its.toArray c',slots:=#[] }->EP X pins σ Q (.ref s.heap.objs.size) { s with heap:=h' }:=fun its r' hz h' c' kp e=>
  ⟨.ref s.heap.objs.size,_,I.laid (t':=s.toks) kp (Nat.le_refl _) (show ObjOk X.prog X.w _ h' _ (.lst ys) from⟨hz,its,c',r',e⟩),rfl,q _ (I.hok.fresh (Nat.le_refl _))⟩
 rcases hq with hq | hq
 ·obtain⟨its,r',pl,hz⟩:=I.list hq
  have hlen:=r'.length
  obtain⟨o,ho,hc,n,hd⟩:=pl.isList
  exact call_list_seq p (.inl rfl) ho hc hd (fun h' c' kp e=>fin its r' hz h' c' kp e) (by simp only[List.size_toArray] <;> omega)
 ·obtain⟨its,r',pl,hz⟩:=I.tuple hq
  have hlen:=r'.length
  obtain⟨o,ho,hc,n,hd⟩:=pl
  exact call_list_seq p (.inr rfl) ho hc hd (fun h' c' kp e=>fin its r' hz h' c' kp e) (by simp only[List.size_toArray] <;> omega)
def tyV (K:PySem.W.Frag) (T:String) (x:V) (H:Hp):Prop:=match x with
 | .str _=>T = "str"
 | .int _=>T = "int"
 | .ref p=>(T = "list" /\ ∃ xs,SqL K H p xs)\/(T = "tuple" /\ ∃ o,K.lookup p=some o/\o.cls=.type "tuple" /\ o.dict=none) \/
   (T = "dict" /\ ((∃ kvs,H p=some (.dK kvs))\/∃ kvs,H p=some (.dT kvs)))\/(T = "set" /\ ∃ S n,H p=some (.set S n))
 | _=>False
theorem tyV_is {pins:List (Addr×Obj)} {σ:St} {H:Hp} {s:Shared} {T:String} {x:V} {v:Value} (I:Inv X pins σ H s) (r:RelV x v) (ty:tyV X.K T x H) :
  s.TypeIs v T/\∀ a,v=.ref a->∃ ob,s.heap.get? a=some ob/\ob.dict=none:=by
 cases x with
 | str z=>
  obtain⟨t,rfl⟩:=r
  cases (show T = "str" from ty)
  exact⟨typeIs_str s z t,fun _ e=>nomatch e⟩
 | int i=>
  obtain⟨t,rfl⟩:=r
  cases (show T = "int" from ty)
  exact⟨typeIs_int s i t,fun _ e=>nomatch e⟩
 | ref p=>
  cases r
  rcases ty with ⟨rfl,xs,hq⟩ | ⟨rfl,o,hk,hc,hd⟩ | ⟨rfl,hk⟩ | ⟨rfl,S,n,hk⟩
  ·obtain⟨its,_,pl,_⟩:=I.list hq
   refine⟨pl.isList.typeIs,fun a e=>?_⟩
   cases e
   obtain⟨o,n,e,c,hd,_⟩:=pl
   exact⟨o,e,hd⟩
  ·refine⟨⟨o,I.kIn p o hk,hc⟩,fun a e=>?_⟩
   cases e
   exact⟨o,I.kIn _ o hk,hd⟩
  ·have z:∃ o,s.heap.get? p=some o/\o.ExactDict:=by
    rcases hk with ⟨kvs,hk⟩ | ⟨kvs,hk⟩
    ·obtain⟨_,_,_,_,o,_,_,e,ex,_⟩:=I.hok p _ hk
     exact⟨o,e,ex⟩
    ·obtain⟨_,_,_,_,o,_,_,e,ex,_⟩:=I.hok p _ hk
     exact⟨o,e,ex⟩
   obtain⟨o,e,ex⟩:=z
   refine⟨⟨o,e,ex.1⟩,fun a e2=>?_⟩
   cases e2
   exact⟨o,e,ex.2.1⟩
  ·obtain⟨o,_,_,_,e,ex,_⟩:=I.hok p _ hk
   refine⟨⟨o,e,ex.1⟩,fun a e2=>?_⟩
   cases e2
   exact⟨o,e,ex.2.1⟩
 | _=>exact False.elim ty
def tBM0 (K:PySem.W.Frag) (T:String) (r:V->List V->Hp->VK->Prop) (to:TE):TE:=fun σ H Q=>to σ H fun x H1=>tyV K T x H1/\r x [] H1 Q
def tBM (K:PySem.W.Frag) (T:String) (r:V->List V->Hp->VK->Prop) (to:TE) (t:TA):TE:=fun σ H Q=>to σ H fun x H1=>tyV K T x H1/\t σ H1 fun xs H2=>r x xs H2 Q
variable {o e:Expr} {es:List Expr} {to:TE} {t:TA} {name:Str} {apos cpos:Pos} {T id:String} {r:V->List V->Hp->VK->Prop}
theorem pe_bm0 (pa:PlainAttrs T) (slot:Slot T name id) (hty:typeOf (.builtin id)=pure (.type "method_descriptor")) (hm:MtR X id r) (ho:PE X o to)
  (hbase:attributeBase o name X.env (eval o X.env)=eval o X.env:=by rfl) (hline:(apos.endLine == cpos.line)=true:=by rfl):PE X (.Call (.Attribute o name apos) [] [] cpos) (tBM0 X.K T r to):=by
 intro pins s σ H Q I h
 refine wpAny_Call_method0_late hbase hline (thn (ho pins s σ H _ I h) fun v s1 ⟨x,H1,I1,r1,ty,q1⟩=>?_)
 obtain⟨h1,h2⟩:=tyV_is I1 r1 ty
 exact⟨T,id,pa,slot,hty,h1,h2,Calls.callWith_builtin rfl (PySem.evalArgs_none (hm pins s1 σ H1 x [] v [] Q I1 r1 .nil q1))⟩
theorem pe_bm (pa:PlainAttrs T) (slot:Slot T name id) (hty:typeOf (.builtin id)=pure (.type "method_descriptor")) (hm:MtR X id r) (ho:PE X o to) (ha:PA X (e::es) t)
  (hbase:attributeBase o name X.env (eval o X.env)=eval o X.env:=by rfl)
  (hfew:((backTo cpos (starEach (e::es) X.env)).all (fun x=>!x.1)&&(backToKw cpos (keywordEach [] X.env)).all (fun x=>x.1.isSome)
   && decide ((e::es).length+([]:List Keyword).length+(if ([]:List Keyword).isEmpty then 0 else 1)<30))=true:=by rfl)
  (hline:(apos.endLine == cpos.line)=true:=by rfl) (hs:starEach (e::es) X.env=(false,eval e X.env)::starEach es X.env:=by rfl) (hplain:(backTo cpos (starEach es X.env)).any (·.1)=false:=by rfl) :
  PE X (.Call (.Attribute o name apos) (e::es) [] cpos) (tBM X.K T r to t):=by
 intro pins s σ H Q I h
 refine wpAny_Call_method_late hbase hfew hline rfl (thn (ho pins s σ H _ I h) fun v s1 ⟨x,H1,I1,r1,ty,q1⟩=>?_)
 obtain⟨h1,h2⟩:=tyV_is I1 r1 ty
 refine⟨T,id,pa,slot,hty,h1,h2,?_⟩
 have hA:=ha cpos pins s1 σ H1 _ I1 q1
 rw[hs] at hA ⊢
 refine Calls.callWith_builtin (by show (false||(backTo cpos (starEach es X.env)).any (·.1))=false; rw[hplain] <;> rfl) (Calls.evalArgs_plain ?_)
 exact thn hA fun us s2 ⟨vs,H2,I2,r2,q2⟩=>hm pins s2 σ H2 x vs v us Q I2 r1 r2 q2
/- xs.append(e),list.index on a module's tuple .. are MtR facts of 06m -/
end
end L2
namespace L2
open PySem PySem.Spec PyProof.Rows
def MtM (X:Cx) (id:String) (r:V->List V->Hp->VK->Prop):Prop:=
 ∀ (pins:List (Addr×Obj)) (s:Shared) (σ:St) (H:Hp) (x:V) (xs:List V) (v:Value) (us:List Value) (Q:VK),Inv X pins σ H s->RelV x v->Vals xs us->r x xs H Q ->
  wpAny (model X.prog X.w) X.A (call (.builtin id) (v::us)) (EP X pins σ Q) X.xe s
theorem Vals.one:∀ {x:V} {us:List Value},Vals [x] us->∃ u,us=[u]/\RelV x u
 | _,_,.cons r .nil=>⟨_,rfl,r⟩
theorem Vals.two:∀ {x y:V} {us:List Value},Vals [x,y] us->∃ u v,us=[u,v]/\RelV x u/\RelV y v
 | _,_,_,.cons r (.cons q .nil)=>⟨_,_,rfl,r,q⟩
theorem Vals.zero:∀ {us:List Value},Vals [] us->us=[]
 | _,.nil=>rfl
theorem Vals.eraseIdx:∀ {xs:List V} {us:List Value} (i:Nat),Vals xs us->Vals (xs.eraseIdx i) (us.eraseIdx i)
 | _,_,_,.nil=>.nil
 | _,_,0,.cons _ t=>t
 | _,_,i+1,.cons r t=>.cons r (Vals.eraseIdx i t)
theorem len_erase {α:Type}:∀ (l:List α) (i:Nat),(l.eraseIdx i).length<=l.length
 | [],_=>Nat.le_refl _
 | _::_,0=>Nat.le_succ _
 | _::r,i+1=>Nat.succ_le_succ (len_erase r i)
section
variable {X:Cx} {pins:List (Addr×Obj)} {σ:St} {H:Hp} {s:Shared} {l b:Addr} {xs ys zs:List V}
theorem Inv.lset {its its':List Value} {n:Nat} {f:Array Value->Array Value} {t':Nat} (I:Inv X pins σ H s) (hH:H l=some (.lst xs))
  (e:s.heap.get? l=some { cls:=.type "list",data:=.seq its.toArray n }) (hf:f its.toArray=its'.toArray) (hv:Vals ys its') (hz:ys.length<=sizeLine) :
  Inv X pins σ (upd H l (.lst ys)) { s with heap:=s.heap.update l (Obj.mapSeq f),toks:=t' }:=by
 have q:=PySem.IsL.update e f
 rw[hf] at q
 refine I.write (x:=l) (e:=l) (by rw[hH]; exact trivial) (.inl rfl) (fun b' u hb hu=>(Heap.get?_update_other s.heap (Obj.mapSeq f) (Ne.symm hb)).trans hu) ⟨_,q⟩ ?_
 exact⟨hz,its',_,hv,q⟩
theorem Inv.lstM (I:Inv X pins σ H s) (hH:H l=some (.lst xs)):xs.length<=sizeLine/\∃ (its:List Value) (n:Nat),Vals xs its/\xs.length=its.length/\s.heap.get? l=some { cls:=.type "list",data:=.seq its.toArray n }:=by
 obtain⟨z,its,n,r,e⟩:=I.hok l _ hH
 exact⟨z,its,n,r,r.length,e⟩
end
section
variable {X:Cx}
def rAppend:V->List V->Hp->VK->Prop:=fun x vs H Q=>∃ l xs y,x=.ref l/\vs=[y]/\H l=some (.lst xs)/\xs.length<sizeLine/\Q .non (upd H l (.lst (xs++[y])))
theorem mt_append:MtM X "list.append" rAppend:=by
 intro pins s σ H x vs v us Q I rx rv h
 obtain⟨l,xs,y,rfl,rfl,hH,hz,q⟩:=h
 cases rx
 obtain⟨u,rfl,ru⟩:=rv.one
 obtain⟨z,its,n,r,hl,e⟩:=I.lstM hH
 refine call_meets F.slot_list_append ⟨_,e,rfl⟩ F.entry_list_append (F.args_list_append_2 _ _) (PySem.list_append l its.toArray n u (by rw[List.size_toArray]; omega)) ⟨e,?_⟩
 refine⟨.non,_,I.lset (its':=its++[u]) hH e (by simp) (r.append (.cons ru .nil)) ?_,rfl,q⟩
 rw[List.length_append,List.length_singleton]
 omega
def rClear:V->List V->Hp->VK->Prop:=fun x vs H Q=>∃ l xs,x=.ref l/\vs=[]/\H l=some (.lst xs)/\Q .non (upd H l (.lst []))
theorem mt_clear:MtM X "list.clear" rClear:=by
 intro pins s σ H x vs v us Q I rx rv h
 obtain⟨l,xs,rfl,rfl,hH,q⟩:=h
 cases rx
 have hus:=rv.zero
 subst hus
 obtain⟨z,its,n,r,hl,e⟩:=I.lstM hH
 refine call_meets F.slot_list_clear ⟨_,e,rfl⟩ F.entry_list_clear (F.args_list_clear_1 _) (AutoSeq1.list_clear_list_0 l its.toArray n (by rw[List.size_toArray]; omega)) ⟨e,?_⟩
 exact⟨.non,_,I.lset (its':=[]) (ys:=[]) hH e rfl .nil (Nat.zero_le _),rfl,q⟩
end
section
variable {prog:Program} {w:World} {A:Around} {E:Value->Shared->Prop} {s:Shared}
end
section
variable {X:Cx}
end
end L2
namespace Att
open PySem PySem.W PySem.Calls PyProof.Rows
theorem ints_of_wellAll {P:Params} {h:Heap}:∀ (ns:List Int) (vs:List Value),WellAll P h vs (ns.map WData.int)->IntsAre vs ns:=by
 intro ns
 induction ns with
 | nil=>
  intro vs w
  rw[List.map_nil] at w
  cases w
  exact .nil
 | cons n ns ih=>
  intro vs w
  rw[List.map_cons] at w
  cases w with
  | cons a b=>
   cases a
   exact .cons _ _ (ih _ b)
theorem script_of {l:OpenLaw} {n:Nat} (hn:l.most=some n) {P:Params} {h:Heap} {args:List WData} {vals:List Value}
  (hpre:l.row.toRowW.claim.pre args=true) (hwl:WellAll P h vals args) :
  ∃ a vs ns,vals=[Value.ref a]/\args=[WData.list (ns.map WData.int)]/\h.get? a=some { cls:=.type "list",data:=.seq vs.toArray }/\IntsAre vs ns/\ns.length<=n:=by
 have hsh:WShape.hasAll [] args [.list .int]=true:=(pre_splitW hpre).1
 have hc:l.pre.holds [] { args:=args }=true:=(pre_splitW hpre).2
 obtain⟨d,r,rfl,h1,h2⟩:=hasAllW_cons hsh
 obtain rfl:=hasAllW_nil h2
 obtain⟨xs,rfl,h3⟩:=hasW_list h1
 obtain⟨ns,rfl⟩:=items_int h3
 have hlen:ns.length<=n:=by
  unfold OpenLaw.pre at hc
  have h4:(WTm.not (.lt (.lit (.int (n:Int))) (.len (.arg 0)))).holds [] { args:=[.list (ns.map .int)] }=true:=by
   have h4:=(holds_andW hc).1
   rw[hn] at h4
   exact h4
  have h5:=condW_of h4 (w_not (w_lt w_lit (w_len_list (w_arg rfl))))
  rw[List.length_map] at h5
  refine Nat.le_of_not_lt fun q=>?_
  have q':(n:Int)<((ns.length:Nat):Int):=by omega
  first
   | (rw[decide_eq_true q'] at h5; exact absurd h5 (by decide))
   | (simp at h5; omega)
 cases hwl with
 | cons w1 w2=>
  cases w2
  cases w1 with
  | list ho hall=>exact⟨_,_,ns,rfl,rfl,ho,ints_of_wellAll ns _ hall,hlen⟩
theorem post_true (l:OpenLaw) (args:List WData):l.row.toRowW.claim.post args (.bool true) args=true:=
 postW_of (r:=l.row.toRowW) (X:=(true == true))
  (show WShape.has [] (.bool true) .bool=true by first | rfl | decide | simp[WShape.has,WShape.arms,WShape.armsAll])
  (show (WTm.eq .res (.lit (.bool true))).value [] { args:=args,res:=some (.bool true),after:=args }=some (.bool (true == true)) from w_eq_bool (w_res rfl) w_lit) rfl
theorem attach_call {l:OpenLaw} {n:Nat} {q:Program} {loose:List Str} {XP:(Str->Option Value)->Heap->Prop} {YP:World->Heap->Prop} {d:DefRec}
  (hn:l.most=some n) (hdf:d.params.defaults=[])
  (call:∀ (w:World) (s₀ s₁:Shared) (mg mb:Str->Option Value) (fa:Addr) (o:Obj) (pm cd doc:Value) (a:Addr) (vs:List Value) (ns:List Int),
   Ground q loose [] XP w s₀ mg mb s₁.heap->YP w s₁.heap ->
   s₁.heap.get? fa=some o->o.data=.func (docDef d.name d.params d.body d.scope pm cd doc)->s₁.heap.CodeRec cd d.name->mg d.name=some (.ref fa) ->
   s₁.heap.get? a=some { cls:=.type "list",data:=.seq vs.toArray }->IntsAre vs ns->ns.length<=n->s₁.gens = #[] ->
   codeAny (model l.prog w) callerA (.call (.ref fa) ⟨[.ref a],[]⟩) (fun r s'=>r=.ok (.ret (.bool true))/\OldK s₁.heap s'.heap/\s'.os=s₁.os/\AllBare s'.gens) s₁) :
  WalkO q loose XP YP l.row.toRowW d [] (fun f vs=>PySem.call f vs):=by
 intro w s₀ s₁ mg mb G Y fa o pm cd doc dV kV ho hd hcd hD hmg hg args vals as hpre hlay hrd hwl hlo
 obtain rfl:dV=.none:=Dflts.none hD hdf
 obtain rfl:kV=.none:=Dflts.noKw hD
 obtain⟨a,vs,ns,rfl,rfl,hobj,hints,hlen⟩:=script_of hn hpre hwl
 refine enter_call (codeAny_mono (call w s₀ s₁ mg mb fa o pm cd doc a vs ns G Y ho (fd_plain hd) hcd hmg hobj hints hlen hg) fun r s' hq=>?_)
 obtain⟨rfl,h2,h3,h4⟩:=hq
 exact⟨.inl ⟨.bool true,.bool true,[],rfl,fun _=>rfl,.bool true,post_true l _,fun _=>⟨List.Pairwise.nil,fun _ hm=>(nomatch hm)⟩⟩,h2,h3,h4⟩
section
variable {prog:Program} {w:World} {A:Around} {E:Value->Shared->Prop} {s:Shared} {K:Frag}
end
end Att
namespace L2
open PySem PySem.Spec PyProof.Rows
theorem vals_ints:∀ {vs:List Value} {ns:List Int},IntsAre vs ns->Vals (ns.map V.int) vs
 | _,_,.nil=>.nil
 | _,_,.cons n t h=>.cons ⟨t,rfl⟩ (vals_ints h)
def Only (H:Hp):Prop:=∀ b,H b=none\/∃ o xs,H b=some (.frz o (.lst xs))
theorem law_call {P:Program} {w:World} {K:PySem.W.Frag} {mg mb:Str->Option Value} {CX:CXT} {k:Nat} {fa a:Addr} {fd:FuncData} {x:Str} {sp:Sp} {s₁:Shared} {vs:List Value} {ns:List Int}
  (KX:K.In s₁.heap) (hns:s₁.heap.Ns mainGlobals mg) (hb:s₁.heap.Ns builtinsNs mb) (hbb:∀ x:Str,x ≠ "__name__" -> mb x=bootBuiltins x) (hlim:s₁.heap.NoLimit) (hg:s₁.gens = #[])
  (ha:s₁.heap.get? a=some { cls:=.type "list",data:=.seq vs.toArray }) (hi:IntsAre vs ns) (hl:ns.length<=sizeLine) (hr:Room k callerA)
  (F:∀ base:Heap,K.In base->base.Ns mainGlobals mg->FnOk P w K mg base CX k fa fd [x] sp) (hbind:∀ (s:Shared) (u:Value),BindsTo s fd ⟨[u],[]⟩ [(x,u)])
  (hsp:∀ H:Hp,Only H->SqL K H a (ns.map V.int)->sp [.ref a] H (fun v _=>v=.bl true) fun _ _ _=>False)
  (hCX:∀ H e s',CX [] H s₁ (fun _ _ _=>False) e s'->False) :
  codeAny (model P w) callerA (.call (.ref fa) ⟨[.ref a],[]⟩) (fun r s'=>r=.ok (.ret (.bool true))/\OldK s₁.heap s'.heap/\s'.os=s₁.os/\AllBare s'.gens) s₁:=by
 have rv:=vals_ints hi
 have lenV:=hi.length
 have core:∀ H:Hp,Only H->SqL K H a (ns.map V.int)->HOk P w H s₁.heap->(∀ b,H b≠none->b=a)->(H a≠none->K.lookup a=none) ->
   codeAny (model P w) callerA (.call (.ref fa) ⟨[.ref a],[]⟩) (fun r s'=>r=.ok (.ret (.bool true))/\OldK s₁.heap s'.heap/\s'.os=s₁.os/\AllBare s'.gens) s₁:=by
  intro H hO hS hok hA hK
  have base_of:∀ {b:Addr} {o:Obj},s₁.heap.get? b=some o->H b=none->(hidT s₁.heap H).get? b=some o:=fun e n=>hidT_get e n
  have noA:∀ {b:Addr} {o:Obj} {es:Array DictEntry} {ep:Nat},s₁.heap.get? b=some o->o.data=.dict es ep->H b=none:=fun {b o es ep} e d=>by
   cases q:H b with
   | none=>rfl
   | some u=>
    have e':b=a:=hA b (by rw[q]; simp)
    subst e'
    rw[ha] at e; cases e
    have d':Data.seq vs.toArray _=Data.dict es ep:=d
    cases d'
  have nsK:∀ {b:Addr} {m:Str->Option Value},s₁.heap.Ns b m->(hidT s₁.heap H).Ns b m:=fun {b m} ⟨o,es,ep,e,d,r⟩=>⟨o,es,ep,base_of e (noA e d),d,r⟩
  have hKb:K.In (hidT s₁.heap H):=fun b o e=>base_of (KX b o e) (by
   cases q:H b with
   | none=>rfl
   | some u=>
    have e':b=a:=hA b (by rw[q]; simp)
    subst e'
    rw[hK (by rw[q]; simp)] at e; cases e)
  have hM:Mod K mg (hidT s₁.heap H):=⟨hKb,nsK hns,⟨mb,nsK hb,hbb⟩,let ⟨mc,h1,h2⟩:=hlim; ⟨mc,nsK h1,h2⟩⟩
  have e0:Env0 P w K mg (hidT s₁.heap H) callerA [] s₁ H:=⟨rfl,hM,fun b o e=>of_hidT e,Nat.le_of_eq (hidT_size _ _),trivial,fun b hb=>absurd (show b∈([]:List Addr) from hb) (by simp),hok,.of_eq hg⟩
  refine codeAny_mono ((F _ hKb (nsK hns)).run callerA [] s₁ H ⟨[.ref a],[]⟩ [.ref a] [.ref a] _ _ hr e0 (hbind s₁ (.ref a)) (.cons rfl .nil) (hsp H hO hS)) fun r s' h=>?_
  cases r with
  | error e=>exact (hCX H e s' h).elim
  | ok fl=>
   cases fl with
   | next=>exact False.elim h
   | brk=>exact False.elim h
   | cont=>exact False.elim h
   | ret u=>
    obtain⟨v,H',os,bare,un,hok',r',q⟩:=h
    have q':v=.bl true:=q
    subst q'
    obtain rfl:u=Value.bool true:=r'
    refine⟨rfl,OldK.of_keep fun b o e=>?_,os,bare⟩
    cases q:H b with
    | none=>exact un.keep b o e q (by intro z; exact absurd (show b∈([]:List Addr) from z) (by simp)) (by simp)
    | some u=>
     rcases hO b with z | ⟨ob,xs,z⟩
     ·rw[q] at z; cases z
     ·have z2:=un.frzs b ob _ z
      obtain⟨e1,_⟩:=hok b _ z
      obtain⟨e2,_⟩:=hok' b _ z2
      rw[e] at e1; cases e1
      exact e2
 cases hk:K.lookup a with
 | some o=>
  have e:=KX a o hk
  rw[ha] at e
  cases e
  refine core (fun _=>none) (fun _=>.inl rfl) (.inr ⟨_,vs.toArray,_,hk,rfl,rfl,rfl,by rw[List.size_toArray,lenV]; exact hl,by simpa using rv⟩) (fun b u z=>by have z':(none:Option HO)=some u:=z; cases z') (fun b z=>absurd rfl z) fun z=>absurd rfl z
 | none=>
  refine core (fun b=>if b=a then some (.frz { cls:=.type "list",data:=.seq vs.toArray } (.lst (ns.map V.int))) else none) (fun b=>?_) (.inl (.inr ⟨{ cls:=.type "list",data:=.seq vs.toArray },if_pos rfl⟩)) (fun b u z=>?_) (fun b z=>?_) fun _=>hk
  ·by_cases hb:b=a
   ·exact .inr ⟨_,_,if_pos hb⟩
   ·exact .inl (if_neg hb)
  ·by_cases hb:b=a
   ·have z':=(if_pos hb).symm.trans z
    cases z'
    subst hb
    exact⟨ha,by rw[List.length_map]; exact hl,vs,_,rv,ha⟩
   ·have z':=(if_neg hb).symm.trans z
    cases z'
  ·by_cases hb:b=a
   ·exact hb
   ·exact absurd (if_neg hb) z
end L2
namespace L2
open PySem PySem.Spec PyProof.Rows
abbrev KOf {K:PySem.W.Frag} {h:Heap} (_:K.In h):PySem.W.Frag:=K
theorem walk_of {l:PySem.W.OpenLaw} {n k:Nat} {q:Program} {loose:List Str} {XP:(Str->Option Value)->Heap->Prop} {YP:World->Heap->Prop} {d:DefRec} {K:Params->PySem.W.Frag} {CX:World->CXT} {sp:World->Sp} {x:Str}
  (hn:l.most=some n) (hn2:n<=sizeLine) (hdf:d.params.defaults=[]) (hr:Room k callerA)
  (hY:∀ (w:World) (h:Heap),YP w h->(K w.params).In h)
  (F:∀ (w:World) (mg:Str->Option Value) (fa:Addr) (h:Heap),(K w.params).In h->h.Ns mainGlobals mg->mg d.name=some (.ref fa) ->
   ∃ fd:FuncData,(∀ (s:Shared) (u:Value),BindsTo s fd ⟨[u],[]⟩ [(x,u)]) /\
    ∀ base:Heap,(K w.params).In base->base.Ns mainGlobals mg->FnOk l.prog w (K w.params) mg base (CX w) k fa fd [x] (sp w))
  (hsp:∀ (w:World) (H:Hp) (a:Addr) (ns:List Int),ns.length<=n->Only H->SqL (K w.params) H a (ns.map V.int)->sp w [.ref a] H (fun v _=>v=.bl true) fun _ _ _=>False)
  (hCX:∀ (w:World) (H:Hp) (s:Shared) (e:Value) (s':Shared),CX w [] H s (fun _ _ _=>False) e s'->False) :
  PySem.W.WalkO q loose XP YP l.row.toRowW d [] (fun f vs=>PySem.call f vs):=by
 refine Att.attach_call hn hdf fun w s₀ s₁ mg mb fa o pm cd doc a vs ns G Y ho hd hcd hmg hobj hints hlen hg=>?_
 have KX:=hY w _ Y
 obtain⟨fd,hb,hF⟩:=F w mg fa _ KX G.T.g hmg
 exact law_call KX G.T.g G.T.b G.T.builtins G.T.nolimit hg hobj hints (Nat.le_trans hlen hn2) hr hF hb (fun H hO hS=>hsp w H a ns hlen hO hS) fun H e s'=>hCX w H s₁ e s'
end L2
/- THE LAST THEOREM (shape; LID,My.* are yours):
   My.Adr: a structure of the addresses that your layer names (classes,functions); My.Txt K t: a structure (Prop) of the equations over K;
   My.txt_mk:{K} {implicit addresses ..} (e1:nsIn K mainGlobals "law" = some (some (.ref f))) (e2:K.lookup f=some ⟨oc,od,.func (fnOf "law" "law" params body scope dV kV doc pm an cdv ct),sl⟩) (e3:codeIn K cdv "law" = true) .. : ∃ t,My.Txt K t
(the tactic k_is has no namespace: write k_is) -/
namespace L2
open PySem PySem.Spec PyProof.Rows
def inClass (s:Stmt) (j:Nat):Stmt:=match s with
 | .ClassDef _ _ _ body _ _ _ _ _ _ _=>body.getD j (.Pass ⟨0,0,0,0⟩)
 | _=>.Pass ⟨0,0,0,0⟩
def defArgs (s:Stmt):Arguments:=match s with
 | .FunctionDef _ a _ _ _ _ _ _ _ _=>a
 | _=>{ posonlyargs:=[],args:=[],vararg:=none,kwonlyargs:=[],kw_defaults:=[],kwarg:=none,defaults:=[] }
def defBody (s:Stmt):List Stmt:=match s with
 | .FunctionDef _ _ b _ _ _ _ _ _ _=>b
 | _=>[]
def defScope (s:Stmt):Scope:=match s with
 | .FunctionDef _ _ _ _ _ _ sc _ _ _=>sc
 | _=>{ kind:=.function,names:=[],isGenerator:=false,isCoroutine:=false }
abbrev CX0:CXT:=fun _ _ _ _ _ _=>False
abbrev E0:XK:=fun _ _ _=>False
theorem pass0 {X:Cx}:Passes CX0 X E0:=fun _ _ _ _ _ _ _ h=>h.elim
structure Fun (K:PySem.W.Frag) (x qual:Str) (st:Stmt) (f:Addr) (fd:FuncData):Prop where
 ex:∃ (oc:Value) (od:Option Addr) (kV doc pm:Value) (an:Option Addr) (cdv ct:Value) (osl:Array (Option Value)),
  fd=PySem.W.fnOf x qual (defArgs st) (defBody st) (defScope st) .none kV doc pm an cdv ct/\K.lookup f=some ⟨oc,od,.func fd,osl⟩/\PySem.W.codeIn K cdv qual=true
 kp:PySem.W.keepIn K (.ref f)=true
section
variable {P:Program} {w:World} {K:PySem.W.Frag} {mg:Str->Option Value} {base:Heap}
theorem Fun.ok {x qual:Str} {st:Stmt} {f:Addr} {fd:FuncData} {N ps:List Str} {k:Nat} {sp:Sp} (F:Fun K x qual st f fd) (S:FnScope N ps (defScope st)) (len:∀ vs H Q E,sp vs H Q E->vs.length=ps.length)
  (hbody:∀ (cdv:Value) (A:Around) (outer:List Env) (s:Shared) (H:Hp) (vs:List V) (Q:VK) (E:XK),Room k (A.deeper (envOfC qual (defScope st) s.heap.objs.size f cdv))->sp vs H Q E ->
   ∃ t,PSs (cxOf CX0 P w K mg base N qual (defScope st) f cdv A outer s H E).nox (defBody st) t/\t { nx:=fun _ H'=>Q .non H',rt:=Q } (start N vs) H):FnOk P w K mg base CX0 (k+1) f fd ps sp:=by
 obtain⟨oc,od,kV,doc,pm,an,cdv,ct,osl,rfl,lk,hcd⟩:=F.ex
 refine fn_of lk hcd S len fun A outer s H vs Q E hr hsp=>?_
 obtain⟨t,h,q⟩:=hbody cdv A outer s H vs Q E hr hsp
 exact⟨t,h.nox,q⟩
theorem Fun.binds {x qual:Str} {st:Stmt} {f:Addr} {fd:FuncData} {ps:List Str} (F:Fun K x qual st f fd)
  (h:∀ (kV doc pm:Value) (an:Option Addr) (cdv ct:Value) (us:List Value),us.length=ps.length->bindArgs (PySem.W.fnOf x qual (defArgs st) (defBody st) (defScope st) .none kV doc pm an cdv ct) ⟨us,[]⟩=pure (ps.zip us)):Binds K fd ps []:=by
 obtain⟨oc,od,kV,doc,pm,an,cdv,ct,osl,rfl,lk,hcd⟩:=F.ex
 exact .all (h kV doc pm an cdv ct)
theorem fun_mk {x qual:Str} {st:Stmt} {f:Addr} {oc:Value} {od an:Option Addr} {osl:Array (Option Value)} {kV doc pm cdv ct:Value} (l:K.lookup f=some ⟨oc,od,.func (PySem.W.fnOf x qual (defArgs st) (defBody st) (defScope st) .none kV doc pm an cdv ct),osl⟩)
  (c:PySem.W.codeIn K cdv qual=true) (k:PySem.W.keepIn K (.ref f)=true):Fun K x qual st f (PySem.W.fnOf x qual (defArgs st) (defBody st) (defScope st) .none kV doc pm an cdv ct):=⟨⟨oc,od,kV,doc,pm,an,cdv,ct,osl,rfl,l,c⟩,k⟩
end
theorem hu_of {A:Around} {k:Nat} (hr:Room k A):A.units+1<cLine:=Nat.lt_of_le_of_lt (Nat.add_le_add_left (by decide:1<=64) _) hr.units
theorem small1000 {n:Nat} (h:n<=1000):n<sizeLine:=Nat.lt_of_le_of_lt h (by decide)
section
variable {X:Cx}
theorem pv (i:Nat) {x:Str} {pos:Pos} (hN:X.N[i]?=some x:=by rfl) (hv:Vis X.env.scope x:=by first | exact Or.inl rfl | exact Or.inr (Or.inl rfl) | exact Or.inr (Or.inr rfl)) (hd:(x == ("__debug__" : Str))=false:=by decide)
  (hcd:(x == ("__classdict__" : Str))=false:=by decide):PE X (.Name x pos) (tVar i):=pe_var hN hv hd hcd
end
theorem iteF {A B:Prop} (h:B):if false=true then A else B:=by
 rw[if_neg Bool.false_ne_true]
 exact h
theorem iteT {A B:Prop} (h:A):if true=true then A else B:=by
 rw[if_pos rfl]
 exact h
theorem ite2 {c A B:Prop} [Decidable c] (h1:c->A) (h2:¬ c->B):if c then A else B:=by
 by_cases h:c
 ·rw[if_pos h]
  exact h1 h
 ·rw[if_neg h]
  exact h2 h
def Same (H H':Hp):Prop:=∀ b o,H b=some o->H' b=some o
theorem Same.refl (H:Hp):Same H H:=fun _ _ h=>h
theorem Same.trans {H H1 H2:Hp} (a:Same H H1) (b:Same H1 H2):Same H H2:=fun c o h=>b c o (a c o h)
theorem Same.free {H H':Hp} (e:Same H H') {l:Addr} (h:H' l=Option.none):H l=Option.none:=by
 cases q:H l with
 | none=>rfl
 | some o=>
  rw[e l o q] at h
  cases h
theorem Same.seq {K:PySem.W.Frag} {H H':Hp} {a:Addr} {xs:List V} (e:Same H H') (h:SqL K H a xs):SqL K H' a xs:=by
 rcases h with (h | ⟨o,h⟩) | h
 ·exact .inl (.inl (e _ _ h))
 ·exact .inl (.inr ⟨o,e _ _ h⟩)
 ·exact .inr h
section
variable {X:Cx}
end
section
variable {κ:Type} [DecidableEq κ]
theorem dropK_pos {p:κ×V} {r:List (κ×V)} {k:κ} (e:p.1=k):dropK (p::r) k=dropK r k:=by
 unfold dropK
 rw[List.filter_cons,if_neg (by simp[e])]
theorem dropK_neg {p:κ×V} {r:List (κ×V)} {k:κ} (e:¬ p.1=k):dropK (p::r) k=p::dropK r k:=by
 unfold dropK
 rw[List.filter_cons,if_pos (by simp[e])]
theorem dropK_no:∀ {kvs:List (κ×V)} {k:κ},¬ k∈kvs.map (·.1)->dropK kvs k=kvs
 | [],_,_=>rfl
 | p::r,k,h=>by
  have h':¬ k∈r.map (·.1):=fun m=>by
   obtain⟨q,hq,e⟩:=List.mem_map.mp m
   exact h (List.mem_map.mpr ⟨q,List.mem_cons.mpr (Or.inr hq),e⟩)
  rw[dropK_neg fun e=>h (List.mem_map.mpr ⟨p,List.mem_cons.mpr (Or.inl rfl),e⟩),dropK_no h']
end
end L2
namespace L3
open PySem PySem.Spec PyProof.Rows L2
section
variable {X:Cx} {pins:List (Addr×Obj)} {σ:L2.St} {H:Hp} {s:Shared}
theorem Inv.adopt {D:Addr} {o:HO} (I:Inv X pins σ H s) (hf:FpOk X pins H D) (ho:∃ ob,s.heap.get? D=some ob) (new:ObjOk X.prog X.w (upd H D o) s.heap D o):Inv X pins σ (upd H D o) s:=by
 obtain⟨f0,f1,f2,f3,f4,f5⟩:=hf
 have nD:∀ b u,H b=some u->b≠D:=fun b u e z=>by rw[z,f0] at e; cases e
 have J:=I.step (g':=s.gens) (t':=s.toks) (d':=s.drawn) (h':=s.heap) (H':=upd H D o) (ch:=[D]) (fun b hb=>by
   have e:b=D:=by simpa using hb
   subst e
   exact⟨f3,f1,f4,f5⟩) (fun b o _ _ _ e _=>e) (fun b o _ _ _ e _=>⟨o.slots,e⟩) (fun b u hc e n=>by
   have:b≠D:=fun z=>hc (by simp[z])
   rw[upd_ne this]; exact n) (fun b u _ e=>⟨u,e⟩) (fun b xs e=>by rw[upd_ne (nD b _ e)]; exact e) (fun b ob u e=>by rw[upd_ne (nD b _ e)]; exact e)
   (fun b ps e=>⟨#[],by rw[upd_ne (nD b _ e),e]; simp⟩) (fun m hm=>hm) (fun b u e=>?_) I.bare
 ·exact J
 ·by_cases hb:b=D
  ·subst hb; rw[upd_same] at e; cases e; exact new
  ·rw[upd_ne hb] at e
   exact (I.hok b u e).stay (fun c v _ q=>q) (fun c q=>by rw[upd_ne (nD c _ q)]; exact q) fun c xs q=>by rw[upd_ne (nD c _ q)]; exact q
theorem Inv.same {h':Heap} {C:Addr} (I:Inv X pins σ H s) (hf:FpOk X pins H C) (hs:Heap.SameBut C s.heap h'):Inv X pins σ H { s with heap:=h' }:=by
 obtain⟨f0,f1,f2,f3,f4,f5⟩:=hf
 exact I.turned (t':=s.toks) (fun b o hb e=>(hs.2 b hb).trans e) f0 f1 f3 f4 f5
end
def closeL (cells:List (Str×Addr)):List (Str×NameKind)->List (Str×Addr)->List (Str×Addr)
 | [],acc=>acc
 | (n,k)::r,acc=>if k == .free then closeL cells r ((n,(cells.lookup n).getD 0)::acc) else closeL cells r acc
theorem closureFor_eq {scope:Scope} {env:Env} (h:∀ x∈scope.names,x.2=.free->(env.cells.lookup x.1).isSome=true):closureFor scope env=pure (closeL env.cells scope.names []):=by
 have go:∀ (l:List (Str×NameKind)) (acc:List (Str×Addr)),(∀ x∈l,x.2=.free->(env.cells.lookup x.1).isSome=true) ->
   (forIn l acc fun (x:Str×NameKind) (cs:List (Str×Addr))=>(do
    if x.2 == .free then
     let c ← cellOf env x.1
     pure (ForInStep.yield ((x.1,c)::cs))
    else pure (ForInStep.yield cs):Sem _))=pure (closeL env.cells l acc):=by
  intro l
  induction l with
  | nil=>intro acc _; rfl
  | cons x r ih=>
   intro acc hl
   obtain⟨n,k⟩:=x
   rw[List.forIn_cons]
   have hr:∀ x∈r,x.2=.free->(env.cells.lookup x.1).isSome=true:=fun x hx=>hl x (List.mem_cons_of_mem _ hx)
   unfold closeL
   by_cases hk:(k == NameKind.free)=true
   ·have e:=hl (n,k) List.mem_cons_self (by simpa using hk)
    obtain⟨c,hc⟩:=Option.isSome_iff_exists.mp e
    have hc':env.cells.lookup n=some c:=hc
    simp only[hk,if_true]
    have:cellOf env n=pure c:=by unfold cellOf; rw[hc']
    rw[this,hc']
    simp only[pure_bind,Option.getD_some]
    exact ih _ hr
   ·simp only[hk,if_false,Bool.false_eq_true]
    simp only[pure_bind]
    exact ih _ hr
 have:=go scope.names [] h
 unfold closureFor
 simp only[] at this ⊢
 first
  | (rw[this]; rfl)
  | (simp only[bind_pure]; exact this)
  | exact this
theorem closeL_mem {cells:List (Str×Addr)}:∀ {l:List (Str×NameKind)} {acc:List (Str×Addr)} {x:Str} {c:Addr},(x,c)∈closeL cells l acc->(x,c)∈acc\/((x,NameKind.free)∈l/\c=(cells.lookup x).getD 0)
 | [],_,_,_,h=>.inl h
 | (n,k)::r,acc,x,c,h=>by
  unfold closeL at h
  by_cases hk:(k == NameKind.free)=true
  ·rw[if_pos hk] at h
   rcases closeL_mem h with q | ⟨q1,q2⟩
   ·rcases List.mem_cons.mp q with e | q
    ·cases e
     have:k=.free:=by simpa using hk
     subst this
     exact .inr ⟨List.mem_cons_self,rfl⟩
    ·exact .inl q
   ·exact .inr ⟨List.mem_cons_of_mem _ q1,q2⟩
  ·rw[if_neg hk] at h
   rcases closeL_mem h with q | ⟨q1,q2⟩
   ·exact .inl q
   ·exact .inr ⟨List.mem_cons_of_mem _ q1,q2⟩
theorem closeL_acc {cells:List (Str×Addr)}:∀ {l:List (Str×NameKind)} {acc:List (Str×Addr)} {x:Str×Addr},x∈acc->x∈closeL cells l acc
 | [],_,_,h=>h
 | (n,k)::r,acc,x,h=>by
  unfold closeL
  split
  ·exact closeL_acc (List.mem_cons_of_mem _ h)
  ·exact closeL_acc h
theorem closeL_has {cells:List (Str×Addr)}:∀ {l:List (Str×NameKind)} {acc:List (Str×Addr)} {x:Str},(x,NameKind.free)∈l->(x,(cells.lookup x).getD 0)∈closeL cells l acc
 | (n,k)::r,acc,x,h=>by
  unfold closeL
  rcases List.mem_cons.mp h with e | h
  ·cases e
   rw[if_pos (by rfl)]
   exact closeL_acc List.mem_cons_self
  ·split
   ·exact closeL_has h
   ·exact closeL_has h
theorem cellsFrom_mem:∀ {l:List (Str×NameKind)} {n:Nat} {acc:List (Str×Addr)} {x:Str} {c:Addr},(x,c)∈cellsFrom n l acc->(x,c)∈acc\/((x,NameKind.cell)∈l/\n<=c)
 | [],_,_,_,_,h=>.inl h
 | (y,k)::r,n,acc,x,c,h=>by
  unfold cellsFrom at h
  by_cases hk:(k == NameKind.cell)=true
  ·rw[if_pos hk] at h
   rcases cellsFrom_mem h with q | ⟨q1,q2⟩
   ·rcases List.mem_cons.mp q with e | q
    ·cases e
     have:k=.cell:=by simpa using hk
     subst this
     exact .inr ⟨List.mem_cons_self,Nat.le_refl _⟩
    ·exact .inl q
   ·exact .inr ⟨List.mem_cons_of_mem _ q1,Nat.le_of_succ_le q2⟩
  ·rw[if_neg hk] at h
   rcases cellsFrom_mem h with q | ⟨q1,q2⟩
   ·exact .inl q
   ·exact .inr ⟨List.mem_cons_of_mem _ q1,q2⟩
theorem lookup_of_mem {α:Type}:∀ {l:List (Str×α)} {x:Str} {c:α},(l.map (·.1)).Nodup->(x,c)∈l->l.lookup x=some c
 | (y,d)::r,x,c,nd,h=>by
  rw[List.map_cons,List.nodup_cons] at nd
  rw[List.lookup_cons]
  rcases List.mem_cons.mp h with e | h
  ·cases e; simp
  ·have:x≠y:=fun e=>nd.1 (by rw[<-e]; exact List.mem_map.mpr ⟨(x,c),h,rfl⟩)
   have hb:(x == y)=false:=beq_eq_false_iff_ne.mpr this
   rw[hb]
   exact lookup_of_mem nd.2 h
theorem cellsFrom_pair:∀ {l:List (Str×NameKind)} {n:Nat} {acc:List (Str×Addr)},(acc.Pairwise fun x y=>x.2≠y.2)->(∀ x∈acc,x.2<n)->((cellsFrom n l acc).Pairwise fun x y=>x.2≠y.2)
 | [],_,_,h,_=>h
 | (y,k)::r,n,acc,h,hl=>by
  unfold cellsFrom
  split
  ·refine cellsFrom_pair (List.pairwise_cons.mpr ⟨fun z hz e=>?_,h⟩) (fun z hz=>?_)
   ·have h9:=hl z hz
    have e':n=z.2:=e
    rw[<-e'] at h9
    exact Nat.lt_irrefl _ h9
   ·rcases List.mem_cons.mp hz with e | hz
    ·subst e; exact Nat.lt_succ_self _
    ·exact Nat.lt_succ_of_lt (hl z hz)
  ·exact cellsFrom_pair h hl
theorem closeL_pair {cells:List (Str×Addr)}:∀ {l:List (Str×NameKind)} {acc:List (Str×Addr)},(acc.Pairwise fun x y=>x.2≠y.2)->(l.map (·.1)).Nodup->(∀ x∈acc,∀ y∈l,y.2=.free->x.2≠(cells.lookup y.1).getD 0) ->
  (∀ x∈l,∀ y∈l,x.2=.free->y.2=.free->(cells.lookup x.1).getD 0=(cells.lookup y.1).getD 0->x.1=y.1)->((closeL cells l acc).Pairwise fun x y=>x.2≠y.2)
 | [],_,h,_,_,_=>h
 | (n,k)::r,acc,h,nd,h1,h2=>by
  unfold closeL
  rw[List.map_cons,List.nodup_cons] at nd
  by_cases hk:(k == NameKind.free)=true
  ·rw[if_pos hk]
   have hk':k=.free:=by simpa using hk
   refine closeL_pair (List.pairwise_cons.mpr ⟨fun z hz e=>h1 z hz (n,k) List.mem_cons_self hk' e.symm,h⟩) nd.2 (fun z hz y hy hf=>?_) (fun x hx y hy=>h2 x (List.mem_cons_of_mem _ hx) y (List.mem_cons_of_mem _ hy))
   rcases List.mem_cons.mp hz with e | hz
   ·subst e
    intro e
    have:=h2 (n,k) List.mem_cons_self y (List.mem_cons_of_mem _ hy) hk' hf e
    exact nd.1 (List.mem_map.mpr ⟨y,hy,this.symm⟩)
   ·exact h1 z hz y (List.mem_cons_of_mem _ hy) hf
  ·rw[if_neg hk]
   exact closeL_pair h nd.2 (fun z hz y hy=>h1 z hz y (List.mem_cons_of_mem _ hy)) (fun x hx y hy=>h2 x (List.mem_cons_of_mem _ hx) y (List.mem_cons_of_mem _ hy))
end L3
namespace L3
open PySem PySem.Spec PyProof.Rows L2
def compEnvR (scope:Scope) (C:Addr) (env:Env):Env:=
 { newEnv scope C env.globals (cellsFrom (C+1) scope.names (closeL env.cells scope.names [])) env.qual none .none (some env) builtinsNs with scope:=relabel scope env }
theorem pushCells_new:∀ (l:List (Str×NameKind)) (h:Heap) (acc:List (Str×Addr)) (x:Str) (c:Addr),(x,c)∈cellsFrom h.objs.size l acc->(x,c)∈acc\/((pushCells h l).IsCell c none/\h.objs.size<=c)
 | [],_,_,_,_,m=>.inl m
 | (y,k)::r,h,acc,x,c,m=>by
  unfold cellsFrom at m
  unfold pushCells
  by_cases hk:(k == NameKind.cell)=true
  ·rw[if_pos hk] at m
   rw[if_pos hk]
   have e:h.objs.size+1=(h.push { cls:=.type "cell",data:=.cell none }).objs.size:=(Heap.size_push ..).symm
   rw[e] at m
   rcases pushCells_new r _ _ x c m with q | ⟨q1,q2⟩
   ·rcases List.mem_cons.mp q with e2 | q
    ·cases e2
     exact .inr ⟨⟨_,pushCells_keeps r _ _ _ (Heap.get?_push_size h rfl),rfl⟩,Nat.le_refl _⟩
    ·exact .inl q
   ·exact .inr ⟨q1,by rw[<-e] at q2; omega⟩
  ·rw[if_neg hk] at m
   rw[if_neg hk]
   exact pushCells_new r h acc x c m
theorem wpAny_newEnvComp {M:Model} {A:Around} {E:Value->Shared->Prop} {s:Shared} {scope:Scope} {globals:Addr} {cl:List (Str×Addr)} {qual:Str} {env:Env} {Q:Env->Shared->Prop}
  (hQ:Q (newEnv scope s.heap.objs.size globals (cellsFrom (s.heap.objs.size+1) scope.names cl) qual none .none (some env) builtinsNs) { s with heap:=pushCells (s.heap.push { cls:=.type "dict",data:=.dict #[] }) scope.names }) :
  wpAny M A (newFunctionEnv scope globals cl [] qual none .none (some env)) Q E s:=by
 simp only[newFunctionEnv,Option.isSome_some,if_true]
 refine wpAny_bind (wpAny_alloc ?_)
 refine wpAny_bind (wpAny_layCells _ (fun name kind cells=>by cases hkc:kind == NameKind.cell <;> simp[hkc]) _ _ _ _ ?_)
 rw[show ({ s with heap:=s.heap.push { cls:=.type "dict",data:=.dict #[] } }:Shared).heap.objs.size=s.heap.objs.size+1 from Heap.size_push ..]
 refine wpAny_bind ?_
 rw[List.forIn_nil]
 exact wpAny_pure (wpAny_pure hQ)
structure CompScope (o:Scope) (N:List Str) (sc:Scope) (N':List Str) (src:List (Option Nat)):Prop where
 kind:sc.kind=.function
 nd:(sc.names.map (·.1)).Nodup
 nd':N'.Nodup
 fr:(sc.names.all fun x=>x.2 != .free||(o.names.lookup x.1 == some .cell||o.names.lookup x.1 == some .free))=true
 len:src.length=N'.length
 src:((N'.zip src).all fun p=>match p.2 with | none=>true | some j=>N[j]? == some p.1&&sc.names.lookup p.1 == some .free)=true
def takeSt (src:List (Option Nat)) (σ:L2.St):L2.St:=src.map fun o=>o.bind fun j=>(σ[j]?).join
def cxComp (X:Cx) (N':List Str) (scope:Scope) (C:Addr) (s₀:Shared) (H₀:Hp) (ex:List Addr):Cx where
 prog:=X.prog
 w:=X.w
 K:=X.K
 mg:=X.mg
 base:=X.base
 A:=X.A
 N:=N'
 s₀:=s₀
 H₀:=H₀
 env:=compEnvR scope C X.env
 outer:=X.stack
 stack:=X.stack
 ex:=ex
 fn:=fun x=>scope.names.lookup x == some .cell
 calm:=X.calm
 pn:=[]
 xe:=fun _ _=>False
theorem lookup_relabel {env:Env} (x:Str):∀ (names:List (Str×NameKind)),
  (names.map fun (n,k)=>if (k == NameKind.free&&env.scope.kind == .function&&env.kindOf n == some .cell) then (n,NameKind.cell) else (n,k)).lookup x
   = (names.lookup x).map fun k=>if (k == NameKind.free&&env.scope.kind == .function&&env.kindOf x == some .cell)=true then NameKind.cell else k
 | []=>rfl
 | (n,k)::r=>by
  have ih:=lookup_relabel (env:=env) x r
  rw[List.map_cons]
  by_cases hx:x=n
  ·subst hx
   by_cases hc:(k == NameKind.free&&env.scope.kind == .function&&env.kindOf x == some .cell)=true
   ·simp only[hc,if_true,List.lookup_cons,beq_self_eq_true,Option.map_some]
   ·simp only[hc,if_false,List.lookup_cons,beq_self_eq_true,Option.map_some,Bool.false_eq_true]
  ·have hb:(x == n)=false:=beq_eq_false_iff_ne.mpr hx
   by_cases hc:(k == NameKind.free&&env.scope.kind == .function&&env.kindOf n == some .cell)=true
   ·dsimp only; rw[if_pos hc,List.lookup_cons,List.lookup_cons,hb]; exact ih
   ·dsimp only; rw[if_neg hc,List.lookup_cons,List.lookup_cons,hb]; exact ih
theorem kind_back {scope:Scope} {env:Env} {x:Str} (h:(relabel scope env).names.lookup x=some .cell\/(relabel scope env).names.lookup x=some .free) :
  scope.names.lookup x=some .cell\/scope.names.lookup x=some .free:=by
 have e:=lookup_relabel (env:=env) x scope.names
 have e':(relabel scope env).names.lookup x=(scope.names.lookup x).map fun k=>if (k == NameKind.free&&env.scope.kind == .function&&env.kindOf x == some .cell)=true then NameKind.cell else k:=e
 rw[e'] at h
 cases q:scope.names.lookup x with
 | none=>rw[q] at h; rcases h with h | h <;> cases h
 | some k=>
  rw[q,Option.map_some] at h
  by_cases hk:k=.free
  ·rw[hk]; exact .inr rfl
  ·have:(k == NameKind.free)=false:=by simpa using hk
   rw[this,Bool.false_and,Bool.false_and] at h
   simp only[Bool.false_eq_true,if_false] at h
   rcases h with h | h
   ·exact .inl h
   ·exact .inr h
theorem kind_free {scope:Scope} {env:Env} {x:Str} (h:scope.names.lookup x=some .free):(relabel scope env).names.lookup x=some .cell\/(relabel scope env).names.lookup x=some .free:=by
 have e':(relabel scope env).names.lookup x=(scope.names.lookup x).map fun k=>if (k == NameKind.free&&env.scope.kind == .function&&env.kindOf x == some .cell)=true then NameKind.cell else k:=lookup_relabel (env:=env) x scope.names
 rw[e',h,Option.map_some]
 by_cases hc:(NameKind.free == NameKind.free&&env.scope.kind == .function&&env.kindOf x == some .cell)=true
 ·rw[if_pos hc]; exact .inl rfl
 ·rw[if_neg hc]; exact .inr rfl
theorem isSome_of_mem {α:Type}:∀ {l:List (Str×α)} {x:Str} {c:α},(x,c)∈l->(l.lookup x).isSome=true
 | (y,d)::r,x,c,h=>by
  rw[List.lookup_cons]
  cases hb:x == y with
  | true=>rfl
  | false=>
   rcases List.mem_cons.mp h with e | h
   ·cases e; simp at hb
   ·exact isSome_of_mem h
section
variable {X:Cx} {pins:List (Addr×Obj)} {σ:L2.St} {H:Hp} {s:Shared} {o sc:Scope} {N N':List Str} {src:List (Option Nat)}
theorem CompScope.frOf (CS:CompScope o N sc N' src) {x:Str} (h:(x,NameKind.free)∈sc.names):o.names.lookup x=some .cell\/o.names.lookup x=some .free:=by
 have q:=List.all_eq_true.mp CS.fr _ h
 have e0:((x,NameKind.free).2 != NameKind.free)=false:=by show (NameKind.free != NameKind.free)=false; decide
 rw[e0,Bool.false_or,Bool.or_eq_true] at q
 rcases q with q | q
 ·exact .inl (beq_iff_eq.mp q)
 ·exact .inr (beq_iff_eq.mp q)
theorem CompScope.cellOf (CS:CompScope o N sc N' src) (I:Inv X pins σ H s) (ho:X.env.scope=o) {x:Str} (h:(x,NameKind.free)∈sc.names):∃ c,X.env.cells.lookup x=some c:=by
 have q:=CS.frOf h
 rw[<-ho] at q
 exact I.ok.has x q
theorem CompScope.cells (CS:CompScope o N sc N' src) (I:Inv X pins σ H s) (ho:X.env.scope=o) {x:Str} {c:Addr} (h:(compEnvR sc s.heap.objs.size X.env).cells.lookup x=some c) :
  ((x,NameKind.free)∈sc.names/\X.env.cells.lookup x=some c)\/((x,NameKind.cell)∈sc.names/\s.heap.objs.size+1<=c):=by
 have m:=mem_of_lookup (show (cellsFrom (s.heap.objs.size+1) sc.names (closeL X.env.cells sc.names [])).lookup x=some c from h)
 rcases cellsFrom_mem m with q | q
 ·rcases closeL_mem q with q | ⟨q1,q2⟩
  ·cases q
  ·obtain⟨c',hc'⟩:=CS.cellOf I ho q1
   rw[hc',Option.getD_some] at q2
   subst q2
   exact .inl ⟨q1,hc'⟩
 ·exact .inr q
theorem Inv.comp (I:Inv X pins σ H s) (hcalm:X.calm=true) (CS:CompScope o N sc N' src) (ho:X.env.scope=o) (hN:X.N=N) {ex:List Addr} (hf:∀ b∈ex,FpOk X pins H b) (hlt:∀ b∈ex,b<s.heap.objs.size) :
  Inv (cxComp X N' sc s.heap.objs.size s H ex) [] (takeSt src σ) H { s with heap:=pushCells (s.heap.push { cls:=.type "dict",data:=.dict #[] }) sc.names }:=by
 have keep:∀ b u,s.heap.get? b=some u->(pushCells (s.heap.push { cls:=.type "dict",data:=.dict #[] }) sc.names).get? b=some u:=fun b u e=>pushCells_keeps _ _ b u (Heap.get?_push_of_some _ e)
 have cellLt:∀ x c,X.env.cells.lookup x=some c->c<s.heap.objs.size:=fun x c e=>by
  obtain⟨v,q⟩:=I.cell x c e
  exact q.lt
 have newC:∀ x c,(x,NameKind.cell)∈sc.names->(compEnvR sc s.heap.objs.size X.env).cells.lookup x=some c->s.heap.objs.size+1<=c->(pushCells (s.heap.push { cls:=.type "dict",data:=.dict #[] }) sc.names).IsCell c none:=fun x c _ e hc=>by
  have m:=mem_of_lookup (show (cellsFrom (s.heap.objs.size+1) sc.names (closeL X.env.cells sc.names [])).lookup x=some c from e)
  have e1:s.heap.objs.size+1=(s.heap.push { cls:=.type "dict",data:=.dict #[] }).objs.size:=(Heap.size_push ..).symm
  rw[e1] at m
  rcases pushCells_new _ _ _ x c m with q | q
  ·rcases closeL_mem q with q | ⟨q1,q2⟩
   ·cases q
   ·obtain⟨c',hc'⟩:=CS.cellOf I ho q1
    rw[hc',Option.getD_some] at q2
    have h9:=cellLt x c' hc'
    rw[<-q2] at h9
    exact absurd (Nat.lt_trans h9 (Nat.lt_of_succ_le hc)) (Nat.lt_irrefl _)
  ·exact q.1
 have pr:(cellsFrom (s.heap.objs.size+1) sc.names (closeL X.env.cells sc.names [])).Pairwise fun x y=>x.2≠y.2:=by
  refine cellsFrom_pair (closeL_pair List.Pairwise.nil CS.nd (fun x hx=>nomatch hx) fun x hx y hy fx fy e=>?_) (fun x hx=>?_)
  ·obtain⟨nx,kx⟩:=x
   obtain⟨ny,ky⟩:=y
   cases fx
   cases fy
   obtain⟨cx,hcx⟩:=CS.cellOf I ho hx
   obtain⟨cy,hcy⟩:=CS.cellOf I ho hy
   have e':(X.env.cells.lookup nx).getD 0=(X.env.cells.lookup ny).getD 0:=e
   rw[hcx,hcy,Option.getD_some,Option.getD_some] at e'
   subst e'
   exact I.ok.inj _ _ _ hcx hcy
  ·obtain⟨nx,c⟩:=x
   rcases closeL_mem hx with q | ⟨q1,q2⟩
   ·cases q
   ·obtain⟨c',hc'⟩:=CS.cellOf I ho q1
    rw[hc',Option.getD_some] at q2
    subst q2
    exact Nat.lt_succ_of_lt (cellLt _ _ hc')
 have hfs:∀ b∈ex,b∉frs X.stack:=fun b hb z=>by
  obtain⟨_,f1,f2,_⟩:=hf b hb
  rcases List.mem_cons.mp (I.stkSub b z) with e | e
  ·exact f1 e
  ·exact f2 e
 refine⟨⟨I.ok.mod,CS.kind,I.ok.glob,I.ok.blt,Nat.le_refl _,fun x y c h1 h2=>?_,fun x hx=>?_,fun x c hfn hc=>?_,I.ok.hd,I.ok.frames,.inl rfl,fun b hb=>⟨?_,fun x c e z=>?_⟩,I.bs,Nat.le_trans I.ok.bsz I.sz,fun b u e hb=>?_,hfs,I.stack,I.stkFree⟩,
  rfl,I.bare,Un.kept keep,⟨fun _=>none,(Heap.Ns.new s.heap (.type "dict")).keeps (pushCells_keeps _ _),fun i x v e1 e2 e3=>?_⟩,fun x c e=>?_,I.hok.fresh (Nat.le_refl _),fun x c e=>?_,fun p hp=>absurd (show p∈([]:List (Addr×Obj)) from hp) (by simp),I.hok.kept keep,?_⟩
 ·exact name_of_addr pr (mem_of_lookup h1) (mem_of_lookup h2)
 ·have hx':(relabel sc X.env).names.lookup x=some .cell\/(relabel sc X.env).names.lookup x=some .free:=hx
  refine Option.isSome_iff_exists.mp (PySem.W.cellsFrom_some _ _ _ ?_)
  rcases kind_back hx' with q | q
  ·exact .inl q
  ·exact .inr (isSome_of_mem (closeL_has (mem_of_lookup q)))
 ·have hfn':sc.names.lookup x=some .cell:=beq_iff_eq.mp hfn
  rcases CS.cells I ho hc with ⟨q,_⟩ | ⟨_,q⟩
  ·have:=lookup_of_mem CS.nd q
   rw[hfn'] at this; cases this
  ·exact Nat.le_of_succ_le q
 ·exact Nat.ne_of_lt (hlt b hb)
 ·rcases CS.cells I ho e with ⟨_,q⟩ | ⟨_,q⟩
  ·exact (hf b hb).2.2.2.2.1 x c q z
  ·rw[z] at q
   exact absurd (Nat.lt_trans (Nat.lt_of_succ_le q) (hlt b hb)) (Nat.lt_irrefl _)
 ·obtain⟨_,_,_,f3,_⟩:=hf b hb
  rcases f3 with z | z
  ·exact I.ok.noex b u e z
  ·exact absurd (Nat.lt_of_lt_of_le (Heap.lt_size (I.ok.bs b u e).1) z) (Nat.lt_irrefl _)
 ·-- a captured name
  unfold takeSt at e2
  rw[List.getElem?_map] at e2
  obtain⟨oj,hoj,e2⟩:=Option.map_eq_some_iff.mp e2
  obtain⟨j,rfl,e4⟩:=Option.bind_eq_some_iff.mp e2
  have e2':σ[j]?=some (some v):=by
   cases q:σ[j]? with
   | none=>rw[q] at e4; cases e4
   | some w=>rw[q] at e4; exact congrArg some e4
  have hm:(x,some j)∈N'.zip src:=by
   refine List.mem_of_getElem? (i:=i) ?_
   rw[List.getElem?_zip_eq_some]
   exact⟨e1,hoj⟩
  have q:=List.all_eq_true.mp CS.src _ hm
  have q':(N[j]? == some x&&sc.names.lookup x == some .free)=true:=q
  rw[Bool.and_eq_true] at q'
  have h1:N[j]?=some x:=beq_iff_eq.mp q'.1
  have h2:sc.names.lookup x=some .free:=beq_iff_eq.mp q'.2
  have h3:=CS.frOf (mem_of_lookup h2)
  rw[<-ho] at h3
  obtain⟨m,hn,hl⟩:=I.loc
  obtain⟨u,r,l⟩:=hl j x v (by rw[hN]; exact h1) e2' (.inr h3)
  refine⟨u,r,?_⟩
  rcases l with ⟨k,_⟩ | ⟨_,c,hc,hcell⟩
  ·have k':X.env.scope.names.lookup x=some .local:=k
   rcases h3 with z | z <;> rw[k'] at z <;> cases z
  ·have hsome:=PySem.W.cellsFrom_some (x:=x) sc.names (s.heap.objs.size+1) (closeL X.env.cells sc.names []) (.inr (isSome_of_mem (closeL_has (mem_of_lookup h2))))
   obtain⟨c',hc'⟩:=Option.isSome_iff_exists.mp hsome
   rcases CS.cells I ho hc' with ⟨_,z⟩ | ⟨z,_⟩
   ·rw[hc] at z; cases z
    exact .inr ⟨kind_free h2,c,hc',hcell.keeps keep⟩
   ·have:=lookup_of_mem CS.nd z
    rw[h2] at this; cases this
 ·rcases CS.cells I ho e with ⟨_,q⟩ | ⟨q,q2⟩
  ·obtain⟨v,z⟩:=I.cell x c q
   exact⟨v,z.keeps keep⟩
  ·exact⟨none,newC x c q e q2⟩
 ·rcases CS.cells I ho e with ⟨_,q⟩ | ⟨_,q⟩
  ·exact I.freeC x c q
  ·exact I.hok.fresh (Nat.le_of_succ_le q)
 ·unfold takeSt
  rw[List.length_map]
  exact CS.len
end
end L3
namespace L3
open PySem PySem.Spec PyProof.Rows L2
theorem codeAny_compLoop_any {prog:Program} {w:World} {A:Around} {R:Result->Shared->Prop} {s:Shared} {elt target iter:Expr} {ifs:List Expr} {scope:Scope} {pos:Pos} {it acc:Value} {env:Env} (I:Nat->Shared->Prop)
  (turn:∀ n s,I n s->wpAny (model prog w) A (pyNext it) (fun r s₁=>match r with
   | none=>R (.ok .next) s₁
   | some v=>wpAny (model prog w) A (letOwnedTupleGo target it v) (fun _ s₁'=>wpAny (model prog w) A (assign target env v) (fun _ s₂=>
     wpAny (model prog w) A (forIn ifs true fun c r=>if r=true then do let ok ← isTrue c env (eval c env); pure (ForInStep.yield ok) else pure (ForInStep.yield r)) (fun ok s₃=>
      if ok=true then wpAny (model prog w) A (eval elt env) (fun x s₄=>
       wpAny (model prog w) A (call (.builtin "list.append") [acc,x]) (fun _ s₅=>∃ m,m<n/\I m s₅) (fun _ _=>False) s₄) (fun _ _=>False) s₃
      else ∃ m,m<n/\I m s₃) (fun _ _=>False) s₂) (fun _ _=>False) s₁') (fun _ _=>False) s₁) (fun _ _=>False) s)
  (n:Nat) (h:I n s) :
  codeAny (model prog w) A (.compLoop (.ListComp elt [⟨target,iter,ifs,0⟩] scope pos) 0 it acc env) R s:=by
 refine codeAny_loop rfl I (fun n s hI=>?_) n h
 show wpAny _ A ((compTurn (.ListComp elt [⟨target,iter,ifs,0⟩] scope pos) 0 it acc env).onRaise (fun x=>do noteFrame x env; theTreesLotGoes x)) _ _ s
 refine wpAny_noted ?_
 rw[compTurn_list]
 refine wpAny_bind (wpAny_standAt (wpAny_bind (wpAny_mono (turn n s hI) (fun r s₁ h₁=>?_) fun _ _ h'=>h'.elim)))
 cases r with
 | none=>exact wpAny_pure h₁
 | some v=>
  refine wpAny_bind (wpAny_mono h₁ (fun _ s₁' h₁'=>?_) fun _ _ h'=>h'.elim)
  refine wpAny_bind (wpAny_mono h₁' (fun _ s₂ h₂=>wpAny_bind (wpAny_mono h₂ (fun ok s₃ h₃=>?_) fun _ _ h'=>h'.elim)) fun _ _ h'=>h'.elim)
  cases ok with
  | false=>exact wpAny_pure ⟨rfl,h₃⟩
  | true=>
   exact wpAny_bind (wpAny_bind (wpAny_mono h₃ (fun x s₄ h₄=>wpAny_bind (wpAny_mono h₄ (fun _ s₅ h₅=>wpAny_pure (wpAny_pure ⟨rfl,h₅⟩)) fun _ _ h'=>h'.elim)) fun _ _ h'=>h'.elim))
def PIfs (X:Cx) (ifs:List Expr) (t:TT):Prop:=
 ∀ (pins:List (Addr×Obj)) (s:Shared) (σ:L2.St) (H:Hp) (Q:Bool->Hp->Prop),Inv X pins σ H s->t σ H Q ->
  wpAny (model X.prog X.w) X.A (forIn ifs true fun c r=>if r=true then do let ok ← isTrue c X.env (eval c X.env); pure (ForInStep.yield ok) else pure (ForInStep.yield r)) (TP X pins σ Q) X.xe s
def tYes:TT:=fun _ H Q=>Q true H
theorem gyes {i:Nat} {v:V} {σ:L2.St} {H:Hp} {te:TE} {N:L2.St->V->Hp->Prop} {M:L2.St->Hp->Prop} (h:te (σ.set i (some v)) H fun y H4=>N (σ.set i (some v)) y H4) :
  gName i v σ H fun σ2 H2=>tYes σ2 H2 fun b H3=>if b=true then te σ2 H3 fun y H4=>N σ2 y H4 else M σ2 H3:=h
theorem pifs_nil {X:Cx}:PIfs X [] tYes:=fun pins s σ H Q I h=>wpAny_tests_nil ⟨H,I,h⟩
theorem pifs_one {X:Cx} {c:Expr} {t:TT} (h:PT X c t):PIfs X [c] t:=fun pins s σ H Q I q=>wpAny_tests_one (h pins s σ H Q I q)
def tTurns (J:It) (g:TG) (tt:TT) (te:TE) (σ0:L2.St) (H0:Hp) (Q:List V->Hp->Prop):Prop:=
 ∃ W:Nat->Nat->L2.St->List V->Hp->Prop,(∃ m,W 0 m σ0 [] H0)/\∀ i m σ ys H,W i m σ ys H ->
  (J.stop i H/\Q ys H)\/(J.go i H/\ys.length<sizeLine/\∃ N:L2.St->List V->Hp->Prop,(∀ σ' ys' H',N σ' ys' H'->∃ m',m'<m/\W (i+1) m' σ' ys' H') /\
   ∀ x H',J.yld i H x H'->g x σ H' fun σ2 H2=>tt σ2 H2 fun b H3=>if b=true then te σ2 H3 fun y H4=>N σ2 (ys++[y]) H4 else N σ2 ys H3)
def tComp (wi:TI) (g:TG) (tt:TT) (te:TE) (src:List (Option Nat)):TE:=fun σ H Q=>wi σ H fun J H1=>tTurns J g tt te (takeSt src σ) H1 fun ys H2=>∀ p,H2 p=none->Q (.ref p) (upd H2 p (.lst ys))
section
variable {X:Cx} {pins:List (Addr×Obj)} {σ:L2.St} {H:Hp} {s:Shared} {o sc:Scope} {N N':List Str} {src:List (Option Nat)}
theorem Inv.pinD {D:Addr} {ob:Obj} (I:Inv X [] σ H s) (e:s.heap.get? D=some ob) (n:H D=none) (h1:D≠X.env.locals) (h2:D∉X.fs) (h3:∀ v,ob.data≠.cell v):Inv X [(D,ob)] σ H s:=
 I.pins_of fun p hp=>by
  have q:p=(D,ob):=by simpa using hp
  subst q
  exact⟨e,n,h1,h2,h3⟩
abbrev listObj (its:List Value) (n:Nat):Obj:={ cls:=.type "list",data:=.seq its.toArray n }
theorem comp_core {elt target iter:Expr} {ifs:List Expr} {pos:Pos} {J:It} {fp:List Addr} {it:Addr} {tn:Nat->Heap->Prop} {g:TG} {tt:TT} {te:TE} {Q:List V->Hp->Prop} {E:Value->Shared->Prop}
  {RR:Value->Addr->Result->Shared->Prop} (hc:X.calm=true) (CS:CompScope o N sc N' src) (ho:X.env.scope=o) (hN:X.N=N)
  (hg:∀ C s₀ H₀ ex,PG (cxComp X N' sc C s₀ H₀ ex) target g) (hifs:∀ C s₀ H₀ ex,PIfs (cxComp X N' sc C s₀ H₀ ex) ifs tt) (helt:∀ C s₀ H₀ ex,PE (cxComp X N' sc C s₀ H₀ ex) elt te)
  (I:Inv X pins σ H s) (T:Turn X.prog X.w X.K target J fp it tn) (st:tn 0 s.heap) (hf:∀ b∈fp,FpOk X pins H b) (h:tTurns J g tt te (takeSt src σ) H Q)
  (hRR:∀ (D C:Addr) (s':Shared) (ys:List V) (its:List Value) (n:Nat) (H':Hp),Inv X pins σ H' s'->FpOk X pins H' D->FpOk X pins H' C->D≠C->(∃ m,s'.heap.Ns C m)->Vals ys its->s'.heap.get? D=some (listObj its n)->ys.length<=sizeLine ->
   Q ys H'->RR (.ref D) C (.ok .next) s') :
  wpAny (model X.prog X.w) X.A (newList []) (fun acc s₃=>wpAny (model X.prog X.w) X.A (newFunctionEnv sc X.env.globals (closeL X.env.cells sc.names []) [] X.env.qual none .none (some X.env)) (fun cenv s₄=>
   codeAny (model X.prog X.w) X.A (.compStart (.ListComp elt [⟨target,iter,ifs,0⟩] sc pos) 0 (.ref it) acc { cenv with scope:=relabel sc X.env }) (RR acc cenv.locals) s₄) E s₃) E s:=by
 refine wpAny_newObj_type (wpAny_newEnvComp ?_) (by size_fits)
 generalize hD:s.heap.objs.size=D
 generalize hh3:s.heap.push { cls:=.type "list",data:=.seq ([]:List Value).toArray }=h3
 have I3:Inv X pins σ H { s with heap:=h3 }:=by rw[<-hh3]; exact I.kept (t':=s.toks) fun b u e=>Heap.get?_push_of_some _ e
 have eD3:h3.get? D=some (listObj [] 0):=by rw[<-hh3,← hD]; exact Heap.get?_push_size _ rfl
 have sz3:h3.objs.size=D+1:=by rw[<-hh3,← hD,Heap.size_push]
 have fD:FpOk X pins H D:=by rw[<-hD]; exact I.fpOk (Nat.le_refl _) (I.hok.fresh (Nat.le_refl _))
 have fpLt:∀ b∈fp,b<D:=fun b hb=>by
  obtain⟨ob,e,_⟩:=T.obj 0 _ st b hb
  rw[<-hD]; exact Heap.lt_size e
 have nDfp:D∉fp:=fun z=>Nat.lt_irrefl _ (fpLt D z)
 have hfD:∀ b∈D::fp,FpOk X pins H b:=fun b hb=>by
  rcases List.mem_cons.mp hb with e | hb
  ·rw[e]; exact fD
  ·exact hf b hb
 have hltD:∀ b∈D::fp,b<({ s with heap:=h3 }:Shared).heap.objs.size:=fun b hb=>by
  show b<h3.objs.size
  rw[sz3]
  rcases List.mem_cons.mp hb with e | hb
  ·rw[e]; exact Nat.lt_succ_self _
  ·exact Nat.lt_succ_of_lt (fpLt b hb)
 have IC:=Inv.comp (ex:=D::fp) I3 hc CS ho hN hfD hltD
 generalize hX:cxComp X N' sc ({ s with heap:=h3 }:Shared).heap.objs.size { s with heap:=h3 } H (D::fp)=X' at IC
 have hC:X'.env.locals=D+1:=by rw[<-hX]; exact sz3
 have hfs:X'.fs=frs X.stack:=by rw[<-hX]; rfl
 have hex:X'.ex=D::fp:=by rw[<-hX]; rfl
 have hA:X'.A=X.A:=by rw[<-hX]; rfl
 have hP:X'.prog=X.prog:=by rw[<-hX]; rfl
 have hw:X'.w=X.w:=by rw[<-hX]; rfl
 have hK:X'.K=X.K:=by rw[<-hX]; rfl
 have hcm:X'.calm=true:=by rw[<-hX]; exact hc
 have hxe:X'.xe=fun _ _=>False:=by rw[<-hX]; rfl
 have henv:X'.env=compEnvR sc (D+1) X.env:=by rw[<-hX,← sz3]; rfl
 have hs0:X'.s₀={ s with heap:=h3 }:=by rw[<-hX]; rfl
 have hH0:X'.H₀=H:=by rw[<-hX]; rfl
 have hpn:X'.pn=[]:=by rw[<-hX]; rfl
 have hg':PG X' target g:=by rw[<-hX]; exact hg _ _ _ _
 have hifs':PIfs X' ifs tt:=by rw[<-hX]; exact hifs _ _ _ _
 have helt':PE X' elt te:=by rw[<-hX]; exact helt _ _ _ _
 clear hg hifs helt
 have nDC:D≠D+1:=Nat.ne_of_lt (Nat.lt_succ_self _)
 have cellsNe:∀ b∈D::fp,∀ x c,X'.env.cells.lookup x=some c->c≠b:=fun b hb x c e=>(IC.ok.exf b (by rw[hex]; exact hb)).2 x c e
 have exfs:∀ b∈D::fp,b∉X'.fs:=fun b hb=>IC.ok.exfs b (by rw[hex]; exact hb)
 have locNe:∀ b∈D::fp,b≠X'.env.locals:=fun b hb=>(IC.ok.exf b (by rw[hex]; exact hb)).1
 have fpOf:∀ {H':Hp} {ps:List (Addr×Obj)} {b:Addr},b∈D::fp->H' b=none->(∀ p∈ps,p.1≠b)->FpOk X' ps H' b:=fun {H' ps b} hb hn hp=>
  ⟨hn,locNe b hb,exfs b hb,.inl (by rw[hex]; exact hb),cellsNe b hb,fun p hp'=>hp p (by rw[hpn] at hp'; exact hp')⟩
 have noCell:∀ (its:List Value) (n:Nat) (v:Option Value),(listObj its n).data≠.cell v:=fun its n v z=>by
  have z':Data.seq its.toArray n=Data.cell v:=z
  cases z'
 have st3:tn 0 h3:=T.keep _ _ _ st fun b hb u e=>by rw[<-hh3]; exact Heap.get?_push_of_some _ e
 have kp4:∀ b u,h3.get? b=some u->(pushCells (h3.push { cls:=.type "dict",data:=.dict #[] }) sc.names).get? b=some u:=fun b u e=>pushCells_keeps _ _ b u (Heap.get?_push_of_some _ e)
 have st4:tn 0 (pushCells (h3.push { cls:=.type "dict",data:=.dict #[] }) sc.names):=T.keep _ _ _ st3 fun b _ u e=>kp4 b u e
 obtain⟨W,⟨m0,w0⟩,turn⟩:=h
 have loop:codeAny (model X.prog X.w) X.A (.compLoop (.ListComp elt [⟨target,iter,ifs,0⟩] sc pos) 0 (.ref it) (.ref D) X'.env) (RR (.ref D) (D+1)) { s with heap:=pushCells (h3.push { cls:=.type "dict",data:=.dict #[] }) sc.names }:=by
  refine codeAny_compLoop_any (fun n s'=>∃ i σ' ys its k H',Inv X' [] σ' H' s'/\tn i s'.heap/\(∀ b∈fp,H' b=none)/\H' D=none/\Vals ys its/\s'.heap.get? D=some (listObj its k)/\ys.length<=sizeLine/\W i n σ' ys H') ?_ m0
   ⟨0,takeSt src σ,[],[],0,H,IC,st4,fun b hb=>(hf b hb).1,fD.1,.nil,kp4 _ _ eD3,Nat.zero_le _,w0⟩
  rintro n s5 ⟨i,σ5,ys,its,k,H5,I5,st5,fr5,nD5,rv5,e5,z5,w5⟩
  have I5p:=Inv.pinD I5 e5 nD5 (locNe D List.mem_cons_self) (exfs D List.mem_cons_self) (noCell its k)
  have fp5:∀ {H':Hp},(∀ b∈fp,H' b=none)->∀ b∈fp,FpOk X' [(D,listObj its k)] H' b:=fun hn b hb=>fpOf (List.mem_cons_of_mem _ hb) (hn b hb) fun p hp z=>by
   have q:p=(D,listObj its k):=by simpa using hp
   subst q
   have z':D=b:=z
   exact nDfp (by rw[z']; exact hb)
  rcases turn i n σ5 ys H5 w5 with ⟨stop,qn⟩ | ⟨go,zy,Nx,hNx,step⟩
  ·have tr:=T.done X' hP hw hK hcm i _ s5 σ5 H5 (fun _ _=>False) I5p (fp5 fr5) st5 stop
   rw[hA] at tr
   refine thn tr fun r s6 ⟨hr,I6⟩=>?_
   subst hr
   have p6:=I6.pin (D,listObj its k) (List.mem_append_right _ (List.mem_singleton.mpr rfl))
   have u6:=I6.base
   rw[hfs,hex,hH0,hs0] at u6
   have os6:s6.os=s.os:=by rw[I6.os,hs0]
   have J6:Inv X pins σ H5 s6:=Inv.call' (ch:=D::fp) I3 os6 u6 (by have q:=I6.hok; rw[hP,hw] at q; exact q) I6.bare fun b hb=>by
    obtain⟨f0,f1,f2,f3,f4,f5⟩:=hfD b hb
    exact⟨f3,f1,f4,f5⟩
   obtain⟨m6,n6,_⟩:=I6.loc
   rw[hC] at n6
   have nC:H5 (D+1)=none:=by rw[<-hC]; exact I6.free
   refine hRR D (D+1) s6 ys its k H5 J6 ⟨nD5,fD.2⟩ ⟨nC,?_⟩ nDC ⟨m6,n6⟩ rv5 p6.1 z5 qn
   have q:=I3.fpOk (H':=H5) (b:=D+1) (by show h3.objs.size<=D+1; rw[sz3]; exact Nat.le_refl _) nC
   exact q.2
  ·have tr:=T.item X' hP hw hK hcm i _ s5 σ5 H5 (fun _ _=>False) I5p (fp5 fr5) st5 go
   rw[hA] at tr
   refine thn tr fun r s6 ⟨u,hr,h6⟩=>?_
   subst hr
   refine thn h6 fun _ s7 ⟨x,H7,I7,r7,y7,st7,fr7⟩=>?_
   have I7':=I7.pinned (fp5 fr7) (T.obj _ _ st7)
   have ga:=hg' _ s7 σ5 H7 x u _ I7' r7 (step x H7 y7)
   rw[hP,hw,hA,hxe] at ga
   refine thn ga fun _ s8 ⟨σ8,H8,I8,q8⟩=>?_
   have ta:=hifs' _ s8 σ8 H8 _ I8 q8
   rw[hP,hw,hA,hxe] at ta
   refine thn ta fun ok s9 ⟨H9,I9,q9⟩=>?_
   have memD:((D,listObj its k):Addr×Obj)∈X'.pn++([(D,listObj its k)]++pinsAt fp s7.heap):=List.mem_append_right _ (List.mem_append_left _ (List.mem_singleton.mpr rfl))
   have memF:∀ b∈fp,∀ ob,s7.heap.get? b=some ob->((b,ob):Addr×Obj)∈X'.pn++([(D,listObj its k)]++pinsAt fp s7.heap):=fun b hb ob e=>List.mem_append_right _ (List.mem_append_right _ (mem_pinsAt hb e))
   cases ok with
   | false=>
    have q9':Nx σ8 ys H9:=q9
    obtain⟨m',hm,w9⟩:=hNx σ8 ys H9 q9'
    refine⟨m',hm,i+1,σ8,ys,its,k,H9,I9.pins_of (fun p hp=>nomatch hp),T.keep _ _ _ st7 fun b hb ob e=>(I9.pin _ (memF b hb ob e)).1,fun b hb=>?_,(I9.pin _ memD).2.1,rv5,(I9.pin _ memD).1,z5,w9⟩
    obtain⟨ob,e,_⟩:=T.obj _ _ st7 b hb
    exact (I9.pin _ (memF b hb ob e)).2.1
   | true=>
    have q9':te σ8 H9 fun y H4=>Nx σ8 (ys++[y]) H4:=q9
    have ea:=helt' _ s9 σ8 H9 _ I9 q9'
    rw[hP,hw,hA,hxe] at ea
    show wpAny (model X.prog X.w) X.A (eval elt X'.env) _ _ s9
    refine thn ea fun v s10 ⟨y,H10,I10,r10,q10⟩=>?_
    have pD:=I10.pin _ memD
    have e10:s10.heap.get? D=some (listObj its k):=pD.1
    have hlen:=rv5.length
    refine call_meets F.slot_list_append ⟨_,e10,rfl⟩ F.entry_list_append (F.args_list_append_2 _ _) (PySem.list_append D its.toArray k v (by rw[List.size_toArray]; omega)) ⟨e10,?_⟩
    obtain⟨m',hm,w10⟩:=hNx σ8 (ys++[y]) H10 q10
    have up:=PySem.IsL.update e10 (fun xs=>xs.push v)
    have eqA:(its.toArray.push v)=(its++[v]).toArray:=by simp
    rw[eqA] at up
    have other:∀ b ob,b≠D->s10.heap.get? b=some ob->(s10.heap.update D (Obj.mapSeq fun xs=>xs.push v)).get? b=some ob:=fun b ob hb e=>(Heap.get?_update_other s10.heap _ (Ne.symm hb)).trans e
    have I11:=I10.pins_of (pins':=[]) (fun p hp=>nomatch hp)
    have I12:Inv X' [] σ8 H10 { s10 with heap:=s10.heap.update D (Obj.mapSeq fun xs=>xs.push v) }:=I11.turned (t':=s10.toks) (it:=D) (fun b ob hb e=>other b ob hb e) pD.2.1 (locNe D List.mem_cons_self) (.inl (by rw[hex]; exact List.mem_cons_self)) (cellsNe D List.mem_cons_self) (fun p hp=>by rw[hpn] at hp; exact nomatch hp)
    refine⟨m',hm,i+1,σ8,ys++[y],its++[v],_,H10,I12,T.keep _ _ _ st7 fun b hb ob e=>other b ob (fun z=>nDfp (by rw[<-z]; exact hb)) (I10.pin _ (memF b hb ob e)).1,fun b hb=>?_,pD.2.1,rv5.append (.cons r10 .nil),up,by rw[List.length_append,List.length_singleton]; omega,w10⟩
    obtain⟨ob,e,_⟩:=T.obj _ _ st7 b hb
    exact (I10.pin _ (memF b hb ob e)).2.1
 have loop':codeAny (model X.prog X.w) X.A (.compLoop (.ListComp elt [⟨target,iter,ifs,0⟩] sc pos) 0 (.ref it) (.ref D) (compEnvR sc (D+1) X.env)) (RR (.ref D) (D+1)) { s with heap:=pushCells (h3.push { cls:=.type "dict",data:=.dict #[] }) sc.names }:=by rw[<-henv]; exact loop
 show codeAny (model X.prog X.w) X.A (.compStart (.ListComp elt [⟨target,iter,ifs,0⟩] sc pos) 0 (.ref it) (.ref D) (compEnvR sc h3.objs.size X.env)) (RR (.ref D) h3.objs.size) { s with heap:=pushCells (h3.push { cls:=.type "dict",data:=.dict #[] }) sc.names }
 rw[sz3]
 exact codeAny_compStart_list loop' (T.self X.A 0 _ _ _ st4 loop')
theorem closure_of (I:Inv X pins σ H s) (CS:CompScope o N sc N' src) (ho:X.env.scope=o):closureFor sc X.env=pure (closeL X.env.cells sc.names []):=
 closureFor_eq fun x hx hk=>by
  obtain⟨n,k⟩:=x
  cases hk
  obtain⟨c,hc⟩:=CS.cellOf I ho hx
  rw[hc]; rfl
theorem CompScope.loc (CS:CompScope o N sc N' src):∀ x∈sc.names,x.2=.local->sc.names.lookup x.1=some .local:=fun x hx hl=>by
 obtain⟨n,k⟩:=x
 cases hl
 exact lookup_of_mem CS.nd hx
end
section
variable {X:Cx} {elt target iter:Expr} {ifs:List Expr} {pos:Pos} {o sc:Scope} {N N':List Str} {src:List (Option Nat)} {wi:TI} {g:TG} {tt:TT} {te:TE}
theorem pe_comp (CS:CompScope o N sc N' src) (hi:PI X target iter wi) (hg:∀ C s₀ H₀ ex,PG (cxComp X N' sc C s₀ H₀ ex) target g) (hifs:∀ C s₀ H₀ ex,PIfs (cxComp X N' sc C s₀ H₀ ex) ifs tt) (helt:∀ C s₀ H₀ ex,PE (cxComp X N' sc C s₀ H₀ ex) elt te)
  (hc:X.calm=true:=by rfl) (ho:X.env.scope=o:=by rfl) (hN:X.N=N:=by rfl) (hs:∀ x,foldedSetIterable iter X.env x=pure x:=by intro _; rfl):PE X (.ListComp elt [⟨target,iter,ifs,0⟩] sc pos) (tComp wi g tt te src):=by
 intro pins s σ H Q I h
 rw[eval_ListComp]
 refine wpAny_comprehension_free (use:=none) rfl hs (closure_of I CS ho) CS.kind CS.loc (thn (hi pins s σ H _ I h) fun v s1 h1=>thn h1 fun itv s2 h2=>?_)
 obtain⟨it,fp,tn,J,H2,e,I2,T,st2,f2,q2⟩:=h2
 subst e
 refine comp_core (RR:=fun acc C=>compPost (model X.prog X.w) X.A X.xe none (EP X pins σ Q) acc C) hc CS ho hN hg hifs helt I2 T st2 f2 q2 ?_
 intro D C s' ys its n H' I' fD fC nDC ⟨m,hn⟩ rv e z q
 refine⟨m,hn,fun h' sb=>?_⟩
 have I1:=Inv.same I' fC sb
 have e':h'.get? D=some (listObj its n):=(sb.2 D nDC).trans e
 exact⟨.ref D,upd H' D (.lst ys),Inv.adopt I1 fD ⟨_,e'⟩ ⟨z,its,n,rv,e'⟩,rfl,q D fD.1⟩
theorem ps_setComp {i:Nat} {x:Str} {px spos:Pos} (CS:CompScope o N sc N' src) (hNd:X.N.Nodup) (hxi:X.N[i]?=some x) (hx:X.env.scope.names.lookup x=some .local) (hi:PI X target iter wi) (hg:∀ C s₀ H₀ ex,PG (cxComp X N' sc C s₀ H₀ ex) target g)
  (hifs:∀ C s₀ H₀ ex,PIfs (cxComp X N' sc C s₀ H₀ ex) ifs tt) (helt:∀ C s₀ H₀ ex,PE (cxComp X N' sc C s₀ H₀ ex) elt te)
  (hsw:swapsWith (.ListComp elt [⟨target,iter,ifs,0⟩] sc pos) (some (.Name x px)) spos.line X.env=pure true:=by rfl)
  (hc:X.calm=true:=by rfl) (ho:X.env.scope=o:=by rfl) (hN:X.N=N:=by rfl) (hs:∀ x,foldedSetIterable iter X.env x=pure x:=by intro _; rfl) :
  PS X (.Assign [.Name x px] (.ListComp elt [⟨target,iter,ifs,0⟩] sc pos) spos) (tAsg (tComp wi g tt te src) (gName i)):=by
 intro pins s σ H D0 I h
 rw[exec_Assign_Name_used _ _ _ _ hsw]
 refine wpAny_bind (wpAny_standAt (wpAny_bind ?_))
 show wpAny _ X.A (do let _ ← comprehension (.ListComp elt [⟨target,iter,ifs,0⟩] sc pos) sc X.env _ (newList []) false (eval iter X.env) (some (assign (.Name x px) X.env))) _ _ s
 refine wpAny_bind (wpAny_mono (wpAny_comprehension_free (use:=some (assign (.Name x px) X.env)) (Q:=fun _ s'=>SP X pins D0 .next s') rfl hs (closure_of I CS ho) CS.kind CS.loc
  (thn (hi pins s σ H _ I h) fun v s1 h1=>thn h1 fun itv s2 h2=>?_)) (fun _ s' hq=>wpAny_pure (wpAny_pure hq)) fun _ _ e=>e)
 obtain⟨it,fp,tn,J,H2,e,I2,T,st2,f2,q2⟩:=h2
 subst e
 refine comp_core (RR:=fun acc C=>compPost (model X.prog X.w) X.A X.xe (some (assign (.Name x px) X.env)) (fun _ s'=>SP X pins D0 .next s') acc C) hc CS ho hN hg hifs helt I2 T st2 f2 q2 ?_
 intro D C s' ys its n H' I' fD fC nDC ⟨m,hn⟩ rv e z q
 have I1:=Inv.adopt I' fD ⟨_,e⟩ (o:=.lst ys) ⟨z,its,n,rv,e⟩
 have fC':FpOk X pins (upd H' D (.lst ys)) C:=⟨by rw[upd_ne (Ne.symm nDC)]; exact fC.1,fC.2⟩
 show wpAny _ X.A (assign (.Name x px) X.env (.ref D)) _ _ s'
 refine wpAny_assign_Name (store_ok2 (v:=.ref D) I1 hNd hxi (.inl hx) rfl (fun s2 I2' ⟨a,sb,ha⟩=>?_) (.inr hx))
 have hCa:C≠a:=by
  rcases ha with ha | ha
  ·rw[ha]; exact fC.2.1
  ·exact (fC.2.2.2.2.1 x a ha).symm
 refine⟨m,hn.sameBut sb hCa,fun h' sb'=>?_⟩
 exact⟨_,_,Inv.same I2' fC' sb',q D fD.1⟩
end
end L3
namespace L3
open PySem PySem.Spec PyProof.Rows L2
mutual
def Den (K:PySem.W.Frag) (H:Hp):PyData->V->Prop
 | .none,v=>v=.non
 | .bool b,v=>v=.bl b
 | .int i,v=>v=.int i
 | .str x,v=>v=.str x
 | .list ds,v=>∃ p vs,v=.ref p/\SqL K H p vs/\DenL K H ds vs
 | .tuple ds,v=>∃ p vs,v=.ref p/\SqT K H p vs/\DenL K H ds vs
 | .dict _,_=>False
def DenL (K:PySem.W.Frag) (H:Hp):List PyData->List V->Prop
 | [],vs=>vs=[]
 | d::ds,vs=>∃ v r,vs=v::r/\Den K H d v/\DenL K H ds r
end
theorem Same.seqT {K:PySem.W.Frag} {H H':Hp} {a:Addr} {xs:List V} (e:Same H H') (h:SqT K H a xs):SqT K H' a xs:=by
 rcases h with (h | ⟨o,h⟩) | h
 ·exact .inl (.inl (e _ _ h))
 ·exact .inl (.inr ⟨o,e _ _ h⟩)
 ·exact .inr h
mutual
theorem Den.mono {K:PySem.W.Frag} {H H':Hp} (e:Same H H'):∀ (d:PyData) (v:V),Den K H d v->Den K H' d v
 | .none,_,h=>h
 | .bool _,_,h=>h
 | .int _,_,h=>h
 | .str _,_,h=>h
 | .list ds,v,h=>by
  obtain⟨p,vs,h1,h2,h3⟩:=h
  exact⟨p,vs,h1,e.seq h2,DenL.mono e ds vs h3⟩
 | .tuple ds,v,h=>by
  obtain⟨p,vs,h1,h2,h3⟩:=h
  exact⟨p,vs,h1,Same.seqT e h2,DenL.mono e ds vs h3⟩
 | .dict _,_,h=>h
theorem DenL.mono {K:PySem.W.Frag} {H H':Hp} (e:Same H H'):∀ (ds:List PyData) (vs:List V),DenL K H ds vs->DenL K H' ds vs
 | [],_,h=>h
 | d::ds,vs,h=>by
  obtain⟨v,r,h1,h2,h3⟩:=h
  exact⟨v,r,h1,Den.mono e d v h2,DenL.mono e ds r h3⟩
end
mutual
theorem Den.reads {X:Cx} {pins:List (Addr×Obj)} {σ:L2.St} {H:Hp} {s:Shared} (I:Inv X pins σ H s):∀ (d:PyData) (v:V) (u:Value),Den X.K H d v->RelV v u->∃ as,Reads s.heap u d as
 | .none,v,u,h,r=>by
  have e:v=.non:=h
  subst e
  cases (show u=Value.none from r)
  exact⟨[],.none⟩
 | .bool b,v,u,h,r=>by
  have e:v=.bl b:=h
  subst e
  cases (show u=Value.bool b from r)
  exact⟨[],.bool b⟩
 | .int i,v,u,h,r=>by
  have e:v=.int i:=h
  subst e
  obtain⟨t,e⟩:=(show ∃ t,u=Value.int i t from r)
  subst e
  exact⟨[],.int i t⟩
 | .str x,v,u,h,r=>by
  have e:v=.str x:=h
  subst e
  obtain⟨t,e⟩:=(show ∃ t,u=Value.str x t from r)
  subst e
  exact⟨[],.str x t⟩
 | .list ds,v,u,h,r=>by
  obtain⟨p,vs,h1,h2,h3⟩:=h
  subst h1
  cases (show u=Value.ref p from r)
  obtain⟨its,rv,⟨o,n,e,c,_,d⟩,_⟩:=I.list h2
  obtain⟨as,q⟩:=DenL.reads I ds vs its h3 rv
  exact⟨p::as,.list e c d (by simpa using q)⟩
 | .tuple ds,v,u,h,r=>by
  obtain⟨p,vs,h1,h2,h3⟩:=h
  subst h1
  cases (show u=Value.ref p from r)
  obtain⟨its,rv,⟨o,e,c,n,d⟩,_⟩:=I.tuple h2
  obtain⟨as,q⟩:=DenL.reads I ds vs its h3 rv
  exact⟨as,.tuple e c d (by simpa using q)⟩
 | .dict _,_,_,h,_=>False.elim h
theorem DenL.reads {X:Cx} {pins:List (Addr×Obj)} {σ:L2.St} {H:Hp} {s:Shared} (I:Inv X pins σ H s):∀ (ds:List PyData) (vs:List V) (us:List Value),DenL X.K H ds vs->Vals vs us->∃ as,ReadsAll s.heap us ds as
 | [],vs,us,h,r=>by
  have e:vs=[]:=h
  subst e
  cases r
  exact⟨[],.nil⟩
 | d::ds,vs,us,h,r=>by
  obtain⟨v,r',h1,h2,h3⟩:=h
  subst h1
  cases r with
  | cons rv rr=>
   obtain⟨as,q⟩:=Den.reads I d v _ h2 rv
   obtain⟨bs,q'⟩:=DenL.reads I ds r' _ h3 rr
   exact⟨as++bs,.cons q q'⟩
end
section
variable {K:PySem.W.Frag} {H:Hp}
theorem DenL.length:∀ {ds:List PyData} {vs:List V},DenL K H ds vs->ds.length=vs.length
 | [],vs,h=>by
  have e:vs=[]:=h
  subst e; rfl
 | d::ds,vs,h=>by
  obtain⟨v,r,h1,h2,h3⟩:=h
  subst h1
  simp[DenL.length h3]
theorem denL_ints:∀ (ns:List Int),DenL K H (ns.map PyData.int) (ns.map V.int)
 | []=>rfl
 | n::ns=>⟨.int n,_,rfl,rfl,denL_ints ns⟩
theorem denL_bools:∀ (bs:List Bool),DenL K H (bs.map PyData.bool) (bs.map V.bl)
 | []=>rfl
 | n::ns=>⟨.bl n,_,rfl,rfl,denL_bools ns⟩
theorem DenL.ints:∀ {ns:List Int} {vs:List V},DenL K H (ns.map PyData.int) vs->vs=ns.map V.int
 | [],_,h=>h
 | n::ns,vs,h=>by
  obtain⟨v,r,h1,h2,h3⟩:=h
  subst h1
  have e:v=.int n:=h2
  subst e
  rw[DenL.ints h3]
  rfl
theorem same_new {p:Addr} {o:HO} (h:H p=none):Same H (upd H p o):=fun b u e=>by rw[upd_ne (ne_of_none e h)]; exact e
end
def wo (H:Hp) (l:Addr):Hp:=fun b=>if b=l then none else H b
theorem wo_at {H:Hp} {l:Addr}:wo H l l=none:=if_pos rfl
theorem wo_ne {H:Hp} {l b:Addr} (h:b≠l):wo H l b=H b:=if_neg h
theorem iteB {c:Bool} {A B:Prop} (h:c=true) (a:A):if c=true then A else B:=by rw[if_pos h]; exact a
theorem iteN {c:Bool} {A B:Prop} (h:c=false) (b:B):if c=true then A else B:=by rw[if_neg (by rw[h]; exact Bool.false_ne_true)]; exact b
section
variable {X:Cx}
def rDEq (K:PySem.W.Frag) (neg:Bool):R2:=fun x y H Q=>∃ d e,Den K H d x/\Den K H e y/\d.canLay0=true/\e.canLay0=true/\d.depth<=60/\Q (.bl (if neg then !PyData.eqv d e else PyData.eqv d e)) H
theorem op_deq (hu:X.A.units+64<cLine):OpR X (compareOp .Eq) (rDEq X.K false):=by
 intro pins s σ H x y v u Q I rx ry h
 obtain⟨d,e,hd,he,c1,c2,hz,q⟩:=h
 obtain⟨as,ra⟩:=Den.reads I d x v hd rx
 obtain⟨bs,rb⟩:=Den.reads I e y u he ry
 have hm:min d.depth e.depth<=d.depth:=Nat.min_le_left _ _
 exact SeqAt.compareEq_reads ra rb c1 c2 (by omega) ⟨.bl _,H,I,rfl,q⟩
theorem op_dne (hu:X.A.units+64<cLine):OpR X (compareOp .NotEq) (rDEq X.K true):=by
 intro pins s σ H x y v u Q I rx ry h
 obtain⟨d,e,hd,he,c1,c2,hz,q⟩:=h
 obtain⟨as,ra⟩:=Den.reads I d x v hd rx
 obtain⟨bs,rb⟩:=Den.reads I e y u he ry
 have hm:min d.depth e.depth<=d.depth:=Nat.min_le_left _ _
 exact SeqAt.compareNe_reads ra rb c1 c2 (by omega) ⟨.bl _,H,I,rfl,q⟩
end
end L3
namespace L3
open PySem PySem.Spec PyProof.Rows L2
section
variable {X:Cx} {pins:List (Addr×Obj)} {σ:L2.St} {H:Hp} {s:Shared} {h':Heap}
end
theorem turns_list {K:PySem.W.Frag} {a:Addr} {xs:List V} {g:TG} {tt:TT} {te:TE} {σ0:L2.St} {H0:Hp} {Q:List V->Hp->Prop} (Pv:Nat->L2.St->List V->Hp->Prop) (h0:Pv 0 σ0 [] H0)
  (hl:∀ i σ ys H,i<=xs.length->Pv i σ ys H->SqL K H a xs/\ys.length<=i) (hz:xs.length<=sizeLine)
  (hs:∀ i x σ ys H,xs[i]?=some x->Pv i σ ys H->g x σ H fun σ2 H2=>tt σ2 H2 fun b H3=>if b=true then te σ2 H3 fun y H4=>Pv (i+1) σ2 (ys++[y]) H4 else Pv (i+1) σ2 ys H3)
  (hd:∀ σ ys H,Pv xs.length σ ys H->Q ys H):tTurns (Itl K a) g tt te σ0 H0 Q:=by
 refine⟨fun i m σ ys H=>m=xs.length-i/\i<=xs.length/\Pv i σ ys H,⟨xs.length,by simp,Nat.zero_le _,h0⟩,?_⟩
 rintro i m σ ys H ⟨rfl,hi,p⟩
 obtain⟨q,z⟩:=hl i σ ys H hi p
 by_cases hlt:i<xs.length
 ·refine .inr ⟨⟨xs,xs[i],q,by simp[hlt]⟩,by omega,Pv (i+1),fun σ' ys' H' p'=>⟨xs.length-(i+1),by omega,rfl,hlt,p'⟩,fun x H' y=>?_⟩
  obtain⟨e,y⟩:=y
  subst e
  exact hs i x σ ys _ (y xs q) p
 ·have e:i=xs.length:=by omega
  subst e
  exact .inl ⟨⟨xs,q,Nat.le_refl _⟩,hd σ ys H p⟩
theorem turns_range {lo:Int} {n:Nat} {g:TG} {tt:TT} {te:TE} {σ0:L2.St} {H0:Hp} {Q:List V->Hp->Prop} (Pv:Nat->L2.St->List V->Hp->Prop) (h0:Pv 0 σ0 [] H0)
  (hl:∀ i σ ys H,i<=n->Pv i σ ys H->ys.length<=i) (hz:n<=sizeLine)
  (hs:∀ i σ ys H,i<n->Pv i σ ys H->g (.int (lo+i)) σ H fun σ2 H2=>tt σ2 H2 fun b H3=>if b=true then te σ2 H3 fun y H4=>Pv (i+1) σ2 (ys++[y]) H4 else Pv (i+1) σ2 ys H3)
  (hd:∀ σ ys H,Pv n σ ys H->Q ys H):tTurns (Itr lo n) g tt te σ0 H0 Q:=by
 refine⟨fun i m σ ys H=>m=n-i/\i<=n/\Pv i σ ys H,⟨n,by simp,Nat.zero_le _,h0⟩,?_⟩
 rintro i m σ ys H ⟨rfl,hi,p⟩
 have z:=hl i σ ys H hi p
 by_cases hlt:i<n
 ·refine .inr ⟨hlt,by omega,Pv (i+1),fun σ' ys' H' p'=>⟨n-(i+1),by omega,rfl,hlt,p'⟩,fun x H' y=>?_⟩
  obtain⟨e,y⟩:=y
  subst e y
  exact hs i σ ys _ hlt p
 ·have e:i=n:=by omega
  subst e
  exact .inl ⟨Nat.le_refl _,hd σ ys H p⟩
section
variable {X:Cx}
theorem call_isinst:CallR X (.builtin "isinstance") (fun xs H Q=>∃ x T t b,xs=[x,.ty T]/\TyOf X.K H x t/\PySem.W.kitOne X.K t (.type T)=some b/\Q (.bl b) H):=by
 intro pins s σ H xs us Q I r h
 obtain⟨x,T,t,b,rfl,ty,e,q⟩:=h
 obtain⟨u,v,rfl,rx,rc⟩:=Vals.two r
 cases (show v=Value.type T from rc)
 exact isinst_ok I rx ty e fun tk=>⟨.bl b,H,I.tok tk,rfl,q⟩
theorem kit_int_int {K:PySem.W.Frag}:PySem.W.kitOne K (.type "int") (.type "int")=some true:=by unfold PySem.W.kitOne; rw[if_pos (by decide +kernel)]
theorem kit_list_list {K:PySem.W.Frag}:PySem.W.kitOne K (.type "list") (.type "list")=some true:=by unfold PySem.W.kitOne; rw[if_pos (by decide +kernel)]
theorem kit_int_bool {K:PySem.W.Frag}:PySem.W.kitOne K (.type "int") (.type "bool")=some false:=by
 unfold PySem.W.kitOne
 rw[if_neg (by decide +kernel)]
 unfold PySem.W.kitCls
 show (if PySem.W.kitMeta "bool" = true then PySem.W.subIn K (.type "int") (.type "bool") else none)=some false
 rw[if_pos (by decide +kernel)]
 show (fastBuiltinMro "int").map (·.contains (.type "bool"))=some false
 decide +kernel
end
end L3
namespace L3
open PySem PySem.Spec PyProof.Rows L2
section
variable {prog:Program} {w:World} {A:Around} {E:Value->Shared->Prop} {s:Shared}
end
section
variable {prog:Program} {w:World} {A:Around} {R:Result->Shared->Prop} {I:Addr} {fp wr:List Addr} {n:Nat} {P:Nat->Value->Prop} {St':Nat->Heap->Prop}
end
section
variable {X:Cx} {x:Str} {p pos kpos:Pos} {e:Expr} {t tk:TA} {kws:List Keyword}
end
section
variable {X:Cx} {K:PySem.W.Frag}
theorem ix_tupK (h:X.K=K:=by rfl):IxR X (rIxT K):=h ▸ ix_tup
end
end L3
namespace Tim
open PySem PyProof.Rows
abbrev SM:=StateT SortSt Sem
def gallop':Bool->Keyed->Array Keyed->Nat->Nat->Nat->SM (Option Nat):=sortPriv% PySem.Builtin.gallop
def mergeLo':Array Keyed->Array Keyed->SM (Array Keyed):=sortPriv% PySem.Builtin.mergeLo
def mergeHi':Array Keyed->Array Keyed->SM (Array Keyed):=sortPriv% PySem.Builtin.mergeHi
abbrev setGal (st:SortSt) (g:Nat):SortSt:=SortSt.mk' (kindOf st) (arrOf st) (pendingOf st) g (failedOf st)
def setMin':Nat->SM Unit:=sortPriv% PySem.Builtin.setMinGallop
theorem setMin'_eq (g:Nat):setMin' g=modify (fun s=>setGal s g):=rfl
def beyond' (left:Bool) (key:Keyed) (arr:Array Keyed) (base i:Nat):SM (Option Bool):=
 elem' arr (base+i) >>= fun x=>if left then lt' x key else lt' key x >>= fun r=>pure (r.map (!·))
abbrev setPend (st:SortSt) (p:Array (Nat×Nat×Nat)):SortSt:=SortSt.mk' (kindOf st) (arrOf st) p (gallopOf st) (failedOf st)
end Tim
namespace Tim
open PySem PyProof.Rows
def kk (κ:KeyKind) (p:Keyed):κ.α:=(κ.keyOf p.1).getD κ.dflt
theorem KK_get {κ:KeyKind} {a:Array Keyed} {i:Nat} {p:Keyed} (h:a[i]?=some p):KK κ a i=kk κ p:=by unfold KK kk; rw[h]
def LtOk (prog:Program) (w:World) (A:Around) (E:Value->Shared->Prop) (s:Shared) (κ:KeyKind) (kd:SortKind):Prop:=
 ∀ (st:SortSt) (x y:Keyed) (Q:Option Bool->SortSt->Prop),kindOf st=kd->(∃ a,κ.keyOf x.1=some a)->(∃ b,κ.keyOf y.1=some b)->Q (some (κ.blt (kk κ x) (kk κ y))) st->wpS (model prog w) A E s (lt' x y) Q st
def Keys (κ:KeyKind) (a:Array Keyed):Prop:=∀ (i:Nat) (p:Keyed),a[i]?=some p->∃ k,κ.keyOf p.1=some k
theorem Keys.perm {κ:KeyKind} {a b:Array Keyed} (h:Keys κ a) (p:b.Perm a):Keys κ b:=fun i x e=>by
 have hm:x∈a.toList:=(Array.perm_iff_toList_perm.mp p).mem_iff.mp (Array.mem_toList_iff.mpr (Array.mem_of_getElem? e))
 obtain⟨j,hj,e2⟩:=List.mem_iff_getElem.mp hm
 exact h j x (by rw[<-Array.getElem?_toList,List.getElem?_eq_getElem hj,e2])
def Seg (κ:KeyKind) (a:Array Keyed) (lo hi:Nat):Prop:=∀ i j,lo<=i->i<=j->j<hi->κ.kle (KK κ a i) (KK κ a j)
section
variable {prog:Program} {w:World} {A:Around} {E:Value->Shared->Prop} {s:Shared} {κ:KeyKind} {kd:SortKind}
theorem wpS_elem {st:SortSt} {a:Array Keyed} {i:Nat} {Q:Keyed->SortSt->Prop} (hi:i<a.size) (h:Q a[i] st):wpS (model prog w) A E s (elem' a i) Q st:=by
 rw[elem'_eq,Array.getElem?_eq_getElem hi]
 exact wpS_pure h
def byd (κ:KeyKind) (left:Bool) (key:κ.α) (x:κ.α):Bool:=if left then κ.blt x key else !κ.blt key x
theorem wpS_beyond (hL:LtOk prog w A E s κ kd) {st:SortSt} {left:Bool} {key:Keyed} {arr:Array Keyed} {base i:Nat} {Q:Option Bool->SortSt->Prop} (hk:kindOf st=kd) (hkey:∃ a,κ.keyOf key.1=some a) (ha:Keys κ arr) (hi:base+i<arr.size)
  (h:Q (some (byd κ left (kk κ key) (KK κ arr (base+i)))) st):wpS (model prog w) A E s (beyond' left key arr base i) Q st:=by
 unfold beyond'
 refine wpS_bind (wpS_elem hi ?_)
 have e:arr[base+i]?=some arr[base+i]:=Array.getElem?_eq_getElem hi
 rw[KK_get e] at h
 cases left with
 | true=>
  simp only[if_true]
  exact hL st _ _ _ hk (ha _ _ e) hkey (by simpa [byd] using h)
 | false=>
  simp only[Bool.false_eq_true,if_false]
  refine wpS_bind (hL st _ _ _ hk hkey (ha _ _ e) ?_)
  exact wpS_pure (by simpa [byd] using h)
theorem wpS_gallop (hL:LtOk prog w A E s κ kd) {st:SortSt} {left:Bool} {key:Keyed} {arr:Array Keyed} {base n hint:Nat} {Q:Option Nat->SortSt->Prop} (hk:kindOf st=kd) (hkey:∃ a,κ.keyOf key.1=some a) (ha:Keys κ arr) (hn:base+n<=arr.size) (hh:hint<n)
  (hs:Seg κ arr base (base+n)) (h:∀ k,k<=n->(∀ i,i<k->byd κ left (kk κ key) (KK κ arr (base+i))=true)->(∀ i,k<=i->i<n->byd κ left (kk κ key) (KK κ arr (base+i))=false)->Q (some k) st) :
  wpS (model prog w) A E s (gallop' left key arr base n hint) Q st:=by
 have mono:∀ i j,i<=j->j<n->byd κ left (kk κ key) (KK κ arr (base+j))=true->byd κ left (kk κ key) (KK κ arr (base+i))=true:=fun i j hij hj hb=>by
  have hle:=hs (base+i) (base+j) (by omega) (by omega) (by omega)
  cases left with
  | true=>
   simp only[byd,if_true] at hb ⊢
   exact KeyOrd.klt_of_kle_of_klt hle hb
  | false=>
   simp only[byd,Bool.false_eq_true,if_false] at hb ⊢
   have hb':κ.kle (KK κ arr (base+j)) (kk κ key):=by simpa [KeyOrd.kle] using hb
   have:=KeyOrd.kle_trans hle hb'
   simpa [KeyOrd.kle] using this
 have anti:∀ i j,i<=j->j<n->byd κ left (kk κ key) (KK κ arr (base+i))=false->byd κ left (kk κ key) (KK κ arr (base+j))=false:=fun i j hij hj hb=>by
  cases q:byd κ left (kk κ key) (KK κ arr (base+j)) with
  | false=>rfl
  | true=>rw[mono i j hij hj q] at hb; cases hb
 show wpS _ _ _ _ (bind _ _) _ _
 refine wpS_bind (wpS_beyond hL hk hkey ha (by omega) ?_)
 dsimp only
 cases q0:byd κ left (kk κ key) (KK κ arr (base+hint)) with
 | true=>
  simp only[if_true]
  refine wpS_bind (wpS_mono (wpS_forRange (I:=fun x c st'=>st'=st/\∃ lastofs ofs,c=(none,lastofs,ofs)/\x+1<=ofs/\lastofs<ofs/\lastofs<n-hint/\byd κ left (kk κ key) (KK κ arr (base+(hint+lastofs)))=true)
   (Q:=fun c st'=>st'=st/\∃ lastofs ofs,c=(none,lastofs,ofs)/\lastofs<ofs/\lastofs<n-hint/\byd κ left (kk κ key) (KK κ arr (base+(hint+lastofs)))=true/\(n-hint<=ofs\/byd κ left (kk κ key) (KK κ arr (base+(hint+ofs)))=false)) ?_ ?_ ⟨rfl,0,1,rfl,by omega,by omega,by omega,q0⟩) ?_)
  ·rintro x c st' _ hx ⟨rfl,lastofs,ofs,rfl,g1,g2,g3,g4⟩
   dsimp only
   by_cases hge:ofs≥n-hint
   ·rw[if_pos hge]
    exact wpS_pure ⟨rfl,lastofs,ofs,rfl,g2,g3,g4,.inl hge⟩
   ·rw[if_neg hge]
    refine wpS_bind (wpS_beyond hL hk hkey ha (by omega) ?_)
    dsimp only
    cases q:byd κ left (kk κ key) (KK κ arr (base+(hint+ofs))) with
    | true=>
     simp only[Bool.not_true,Bool.false_eq_true,if_false]
     exact wpS_pure ⟨rfl,ofs,2*ofs+1,rfl,by omega,by omega,by omega,q⟩
    | false=>
     simp only[Bool.not_false,if_true]
     exact wpS_pure ⟨rfl,lastofs,ofs,rfl,g2,g3,g4,.inr q⟩
  ·rintro c st' ⟨rfl,lastofs,ofs,rfl,g1,g2,g3,g4⟩
   exact⟨rfl,lastofs,ofs,rfl,g2,g3,g4,.inl (by omega)⟩
  ·rintro c st1 ⟨rfl,lastofs,ofs,rfl,g2,g3,g4,g5⟩
   dsimp only
   have h1:hint+lastofs+1<=hint+min ofs (n-hint):=by omega
   have h2:hint+min ofs (n-hint)<=n:=by omega
   have h3:∀ i,i<hint+lastofs+1->byd κ left (kk κ key) (KK κ arr (base+i))=true:=fun i hi=>mono i (hint+lastofs) (by omega) (by omega) g4
   have h4:∀ i,hint+min ofs (n-hint)<=i->i<n->byd κ left (kk κ key) (KK κ arr (base+i))=false:=fun i hi hn'=>by
    rcases g5 with g5 | g5
    ·omega
    ·by_cases hge:ofs≥n-hint
     ·omega
     ·exact anti (hint+ofs) i (by omega) hn' g5
   generalize hint+lastofs+1=lo at h1 h3 ⊢
   generalize hint+min ofs (n-hint)=hi at h1 h2 h4 ⊢
   refine wpS_bind (wpS_mono (wpS_forRange (I:=fun x c st2=>st2=st1/\∃ lo hi,c=(none,lo,hi)/\lo<=hi/\hi<=n/\hi-lo<=n-x/\(∀ i,i<lo->byd κ left (kk κ key) (KK κ arr (base+i))=true)/\(∀ i,hi<=i->i<n->byd κ left (kk κ key) (KK κ arr (base+i))=false))
    (Q:=fun c st2=>st2=st1/\∃ k,c.1=none/\c.2.2=k/\k<=n/\(∀ i,i<k->byd κ left (kk κ key) (KK κ arr (base+i))=true)/\(∀ i,k<=i->i<n->byd κ left (kk κ key) (KK κ arr (base+i))=false)) ?_ ?_ ⟨rfl,lo,hi,rfl,h1,h2,by omega,h3,h4⟩) ?_)
   ·rintro x c st2 _ hx ⟨rfl,lo,hi,rfl,g1,g2,g3,g4,g5⟩
    dsimp only
    by_cases hge:lo≥hi
    ·rw[if_pos hge]
     have:lo=hi:=by omega
     subst this
     exact wpS_pure ⟨rfl,lo,rfl,rfl,g2,g4,g5⟩
    ·rw[if_neg hge]
     refine wpS_bind (wpS_beyond hL hk hkey ha (by omega) ?_)
     dsimp only
     cases q:byd κ left (kk κ key) (KK κ arr (base+(lo+(hi-lo)/2))) with
     | true=>
      simp only[if_true]
      refine wpS_pure ⟨rfl,_,_,rfl,by omega,g2,by omega,fun i hi'=>mono i _ (by omega) (by omega) q,g5⟩
     | false=>
      simp only[Bool.false_eq_true,if_false]
      refine wpS_pure ⟨rfl,_,_,rfl,by omega,by omega,by omega,g4,fun i hi' hn'=>anti _ i hi' hn' q⟩
   ·rintro c st2 ⟨rfl,lo,hi,rfl,g1,g2,g3,g4,g5⟩
    have:lo=hi:=by omega
    subst this
    exact⟨rfl,lo,rfl,rfl,g2,g4,g5⟩
   ·rintro ⟨c1,c2,c3⟩ st2 ⟨rfl,k,g1,g2,g3,g4,g5⟩
    dsimp only at g1 g2 ⊢
    subst g1 g2
    exact wpS_pure (h _ g3 g4 g5)
 | false=>
  simp only[Bool.false_eq_true,if_false]
  refine wpS_bind (wpS_mono (wpS_forRange (I:=fun x c st'=>st'=st/\∃ lastofs ofs,c=(none,lastofs,ofs)/\x+1<=ofs/\lastofs<ofs/\lastofs<=hint/\byd κ left (kk κ key) (KK κ arr (base+(hint-lastofs)))=false)
   (Q:=fun c st'=>st'=st/\∃ lastofs ofs,c=(none,lastofs,ofs)/\lastofs<ofs/\lastofs<=hint/\byd κ left (kk κ key) (KK κ arr (base+(hint-lastofs)))=false/\(hint+1<=ofs\/byd κ left (kk κ key) (KK κ arr (base+(hint-ofs)))=true)) ?_ ?_ ⟨rfl,0,1,rfl,by omega,by omega,by omega,q0⟩) ?_)
  ·rintro x c st' _ hx ⟨rfl,lastofs,ofs,rfl,g1,g2,g3,g4⟩
   dsimp only
   by_cases hge:ofs≥hint+1
   ·rw[if_pos hge]
    exact wpS_pure ⟨rfl,lastofs,ofs,rfl,g2,g3,g4,.inl hge⟩
   ·rw[if_neg hge]
    refine wpS_bind (wpS_beyond hL hk hkey ha (by omega) ?_)
    dsimp only
    cases q:byd κ left (kk κ key) (KK κ arr (base+(hint-ofs))) with
    | true=>
     simp only[if_true]
     exact wpS_pure ⟨rfl,lastofs,ofs,rfl,g2,g3,g4,.inr q⟩
    | false=>
     simp only[Bool.false_eq_true,if_false]
     exact wpS_pure ⟨rfl,ofs,2*ofs+1,rfl,by omega,by omega,by omega,q⟩
  ·rintro c st' ⟨rfl,lastofs,ofs,rfl,g1,g2,g3,g4⟩
   exact⟨rfl,lastofs,ofs,rfl,g2,g3,g4,.inl (by omega)⟩
  ·rintro c st1 ⟨rfl,lastofs,ofs,rfl,g2,g3,g4,g5⟩
   dsimp only
   have h1:hint+1-min ofs (hint+1)<=hint-lastofs:=by omega
   have h2:hint-lastofs<=n:=by omega
   have h3:∀ i,i<hint+1-min ofs (hint+1)->byd κ left (kk κ key) (KK κ arr (base+i))=true:=fun i hi=>by
    rcases g5 with g5 | g5
    ·omega
    ·by_cases hge:ofs≥hint+1
     ·omega
     ·exact mono i (hint-ofs) (by omega) (by omega) g5
   have h4:∀ i,hint-lastofs<=i->i<n->byd κ left (kk κ key) (KK κ arr (base+i))=false:=fun i hi hn'=>anti (hint-lastofs) i hi hn' g4
   generalize hint+1-min ofs (hint+1)=lo at h1 h3 ⊢
   generalize hint-lastofs=hi at h1 h2 h4 ⊢
   refine wpS_bind (wpS_mono (wpS_forRange (I:=fun x c st2=>st2=st1/\∃ lo hi,c=(none,lo,hi)/\lo<=hi/\hi<=n/\hi-lo<=n-x/\(∀ i,i<lo->byd κ left (kk κ key) (KK κ arr (base+i))=true)/\(∀ i,hi<=i->i<n->byd κ left (kk κ key) (KK κ arr (base+i))=false))
    (Q:=fun c st2=>st2=st1/\∃ k,c.1=none/\c.2.2=k/\k<=n/\(∀ i,i<k->byd κ left (kk κ key) (KK κ arr (base+i))=true)/\(∀ i,k<=i->i<n->byd κ left (kk κ key) (KK κ arr (base+i))=false)) ?_ ?_ ⟨rfl,lo,hi,rfl,h1,h2,by omega,h3,h4⟩) ?_)
   ·rintro x c st2 _ hx ⟨rfl,lo,hi,rfl,g1,g2,g3,g4,g5⟩
    dsimp only
    by_cases hge:lo≥hi
    ·rw[if_pos hge]
     have:lo=hi:=by omega
     subst this
     exact wpS_pure ⟨rfl,lo,rfl,rfl,g2,g4,g5⟩
    ·rw[if_neg hge]
     refine wpS_bind (wpS_beyond hL hk hkey ha (by omega) ?_)
     dsimp only
     cases q:byd κ left (kk κ key) (KK κ arr (base+(lo+(hi-lo)/2))) with
     | true=>
      simp only[if_true]
      refine wpS_pure ⟨rfl,_,_,rfl,by omega,g2,by omega,fun i hi'=>mono i _ (by omega) (by omega) q,g5⟩
     | false=>
      simp only[Bool.false_eq_true,if_false]
      refine wpS_pure ⟨rfl,_,_,rfl,by omega,by omega,by omega,g4,fun i hi' hn'=>anti _ i hi' hn' q⟩
   ·rintro c st2 ⟨rfl,lo,hi,rfl,g1,g2,g3,g4,g5⟩
    have:lo=hi:=by omega
    subst this
    exact⟨rfl,lo,rfl,rfl,g2,g4,g5⟩
   ·rintro ⟨c1,c2,c3⟩ st2 ⟨rfl,k,g1,g2,g3,g4,g5⟩
    dsimp only at g1 g2 ⊢
    subst g1 g2
    exact wpS_pure (h _ g3 g4 g5)
end
end Tim
namespace Tim
open PySem PyProof.Rows
section
variable {κ:KeyKind}
def le (κ:KeyKind) (x y:Keyed):Prop:=κ.kle (kk κ x) (kk κ y)
theorem le_trans {x y z:Keyed} (h1:le κ x y) (h2:le κ y z):le κ x z:=KeyOrd.kle_trans h1 h2
theorem le_refl (x:Keyed):le κ x x:=KeyOrd.kle_refl _
theorem le_of_lt {x y:Keyed} (h:κ.blt (kk κ x) (kk κ y)=true):le κ x y:=KeyOrd.kle_of_klt h
theorem le_of_not {x y:Keyed} (h:κ.blt (kk κ x) (kk κ y)=false):le κ y x:=h
abbrev Srt (κ:KeyKind) (l:List Keyed):Prop:=l.Pairwise (le κ)
def Res (κ:KeyKind) (A B:List Keyed) (r:Array Keyed):Prop:=r.toList.Perm (A++B)/\Srt κ r.toList
structure Inv3 (κ:KeyKind) (A B out:List Keyed) (i j:Nat):Prop where
 hi:i<=A.length
 hj:j<=B.length
 perm:out.Perm (A.take i++B.take j)
 srt:Srt κ out
 la:∀ x∈out,∀ y∈A.drop i,le κ x y
 lb:∀ x∈out,∀ y∈B.drop j,le κ x y
theorem Inv3.takeA {A B out:List Keyed} {i j k:Nat} (h:Inv3 κ A B out i j) (sA:Srt κ A) (hk:i+k<=A.length) (hb:∀ x∈(A.drop i).take k,∀ y∈B.drop j,le κ x y):Inv3 κ A B (out++(A.drop i).take k) (i+k) j:=by
 have e1:A.take (i+k)=A.take i++(A.drop i).take k:=List.take_add
 have e2:A.drop (i+k)=(A.drop i).drop k:=by rw[List.drop_drop]
 have sD:Srt κ ((A.drop i).take k++(A.drop i).drop k):=by rw[List.take_append_drop]; exact sA.sublist (List.drop_sublist _ _)
 have sD':=List.pairwise_append.mp sD
 refine⟨hk,h.hj,?_,?_,fun x hx y hy=>?_,fun x hx y hy=>?_⟩
 ·rw[e1]
  have:(A.take i++(A.drop i).take k++B.take j).Perm (A.take i++B.take j++(A.drop i).take k):=by
   rw[List.append_assoc,List.append_assoc]
   exact List.Perm.append_left _ List.perm_append_comm
  exact (h.perm.append_right _).trans this.symm
 ·exact List.pairwise_append.mpr ⟨h.srt,sD'.1,fun x hx y hy=>h.la x hx y (List.mem_of_mem_take hy)⟩
 ·rw[e2] at hy
  rcases List.mem_append.mp hx with hx | hx
  ·exact h.la x hx y (List.mem_of_mem_drop hy)
  ·exact sD'.2.2 x hx y hy
 ·rcases List.mem_append.mp hx with hx | hx
  ·exact h.lb x hx y hy
  ·exact hb x hx y hy
theorem Inv3.swap {A B out:List Keyed} {i j:Nat} (h:Inv3 κ A B out i j):Inv3 κ B A out j i:=⟨h.hj,h.hi,h.perm.trans List.perm_append_comm,h.srt,h.lb,h.la⟩
theorem Inv3.fin {A B out R:List Keyed} {i j:Nat} (h:Inv3 κ A B out i j) (hp:R.Perm (A.drop i++B.drop j)) (hs:Srt κ R):(out++R).Perm (A++B)/\Srt κ (out++R):=by
 refine⟨?_,List.pairwise_append.mpr ⟨h.srt,hs,fun x hx y hy=>?_⟩⟩
 ·have e:(A++B).Perm (A.take i++B.take j++(A.drop i++B.drop j)):=by
   have:A++B=A.take i++A.drop i++(B.take j++B.drop j):=by rw[List.take_append_drop,List.take_append_drop]
   rw[this,List.append_assoc,List.append_assoc]
   refine List.Perm.append_left _ ?_
   rw[<-List.append_assoc,← List.append_assoc]
   exact List.Perm.append_right _ List.perm_append_comm
  exact (List.Perm.append h.perm hp).trans e.symm
 ·rcases List.mem_append.mp (hp.mem_iff.mp hy) with hy | hy
  ·exact h.la x hx y hy
  ·exact h.lb x hx y hy
theorem ext_toList (a:Array Keyed) (i j:Nat):(a.extract i j).toList=(a.toList.drop i).take (j-i):=by simp[List.extract_eq_take_drop]
theorem ext_all (a:Array Keyed) (i:Nat):(a.extract i a.size).toList=a.toList.drop i:=by
 rw[ext_toList,List.take_of_length_le]
 simp
theorem Inv3.done {a b out:Array Keyed} {i j:Nat} (h:Inv3 κ a.toList b.toList out.toList i j) (sA:Srt κ a.toList) (sB:Srt κ b.toList) (he:i=a.size\/j=b.size) :
  Res κ a.toList b.toList (out++a.extract i a.size++b.extract j b.size):=by
 have hr:=h.fin (R:=a.toList.drop i++b.toList.drop j) (List.Perm.refl _) (by
  rcases he with he | he
  ·have:a.toList.drop i=[]:=List.drop_eq_nil_of_le (by simp[he])
   rw[this,List.nil_append]; exact sB.sublist (List.drop_sublist _ _)
  ·have:b.toList.drop j=[]:=List.drop_eq_nil_of_le (by simp[he])
   rw[this,List.append_nil]; exact sA.sublist (List.drop_sublist _ _))
 unfold Res
 rw[Array.toList_append,Array.toList_append,ext_all,ext_all,List.append_assoc]
 exact hr
theorem Inv3.last {a b out:Array Keyed} {i j:Nat} (h:Inv3 κ a.toList b.toList out.toList i j) (sB:Srt κ b.toList) (sA:Srt κ a.toList) (hl:∀ x∈b.toList,∀ y∈a.toList.drop i,le κ x y) :
  Res κ a.toList b.toList (out++b.extract j b.size++a.extract i a.size):=by
 have hr:=h.fin (R:=b.toList.drop j++a.toList.drop i) List.perm_append_comm (List.pairwise_append.mpr ⟨sB.sublist (List.drop_sublist _ _),sA.sublist (List.drop_sublist _ _),fun x hx y hy=>hl x (List.mem_of_mem_drop hx) y hy⟩)
 unfold Res
 rw[Array.toList_append,Array.toList_append,ext_all,ext_all,List.append_assoc]
 exact hr
structure Inv4 (κ:KeyKind) (A B out:List Keyed) (i j:Nat):Prop where
 hi:i<=A.length
 hj:j<=B.length
 perm:out.Perm (A.drop i++B.drop j)
 srt:Srt κ out
 la:∀ x∈out,∀ y∈A.take i,le κ y x
 lb:∀ x∈out,∀ y∈B.take j,le κ y x
theorem Inv4.swap {A B out:List Keyed} {i j:Nat} (h:Inv4 κ A B out i j):Inv4 κ B A out j i:=⟨h.hj,h.hi,h.perm.trans List.perm_append_comm,h.srt,h.lb,h.la⟩
theorem Inv4.takeA {A B out:List Keyed} {i j k:Nat} (h:Inv4 κ A B out i j) (sA:Srt κ A) (hk:k<=i) (hb:∀ x∈(A.take i).drop k,∀ y∈B.take j,le κ y x):Inv4 κ A B ((A.take i).drop k++out) k j:=by
 have hi:=h.hi
 have e0:(A.take i).take k=A.take k:=by rw[List.take_take]; congr 1; omega
 have sT:Srt κ ((A.take i).take k++(A.take i).drop k):=by rw[List.take_append_drop]; exact sA.sublist (List.take_sublist _ _)
 have sT':=List.pairwise_append.mp sT
 have e1:A.drop k=(A.take i).drop k++A.drop i:=by
  have:A=A.take i++A.drop i:=(List.take_append_drop _ _).symm
  conv=>lhs; rw[this]
  rw[List.drop_append_of_le_length (by rw[List.length_take]; omega)]
 refine⟨by omega,h.hj,?_,?_,fun x hx y hy=>?_,fun x hx y hy=>?_⟩
 ·rw[e1,List.append_assoc]
  exact List.Perm.append_left _ h.perm
 ·exact List.pairwise_append.mpr ⟨sT'.2.1,h.srt,fun x hx y hy=>h.la y hy x (List.mem_of_mem_drop hx)⟩
 ·rw[<-e0] at hy
  rcases List.mem_append.mp hx with hx | hx
  ·exact sT'.2.2 y hy x hx
  ·exact h.la x hx y (List.mem_of_mem_take hy)
 ·rcases List.mem_append.mp hx with hx | hx
  ·exact hb x hx y hy
  ·exact h.lb x hx y hy
theorem Inv4.fin {A B out R:List Keyed} {i j:Nat} (h:Inv4 κ A B out i j) (hp:R.Perm (A.take i++B.take j)) (hs:Srt κ R):(R++out).Perm (A++B)/\Srt κ (R++out):=by
 refine⟨?_,List.pairwise_append.mpr ⟨hs,h.srt,fun x hx y hy=>?_⟩⟩
 ·have e:(A++B).Perm (A.take i++B.take j++(A.drop i++B.drop j)):=by
   have:A++B=A.take i++A.drop i++(B.take j++B.drop j):=by rw[List.take_append_drop,List.take_append_drop]
   rw[this,List.append_assoc,List.append_assoc]
   refine List.Perm.append_left _ ?_
   rw[<-List.append_assoc,← List.append_assoc]
   exact List.Perm.append_right _ List.perm_append_comm
  exact (List.Perm.append hp h.perm).trans e.symm
 ·rcases List.mem_append.mp (hp.mem_iff.mp hx) with hx | hx
  ·exact h.la y hy x hx
  ·exact h.lb y hy x hx
theorem ext_zero (a:Array Keyed) (i:Nat):(a.extract 0 i).toList=a.toList.take i:=by rw[ext_toList,List.drop_zero,Nat.sub_zero]
theorem Inv4.done {a b out:Array Keyed} {i j:Nat} (h:Inv4 κ a.toList b.toList out.toList.reverse i j) (sA:Srt κ a.toList) (sB:Srt κ b.toList) (he:i=0\/j=0) :
  Res κ a.toList b.toList (a.extract 0 i++b.extract 0 j++out.reverse):=by
 have hr:=h.fin (R:=a.toList.take i++b.toList.take j) (List.Perm.refl _) (by
  rcases he with he | he
  ·subst he
   rw[List.take_zero,List.nil_append]; exact sB.sublist (List.take_sublist _ _)
  ·subst he
   rw[List.take_zero,List.append_nil]; exact sA.sublist (List.take_sublist _ _))
 unfold Res
 rw[Array.toList_append,Array.toList_append,ext_zero,ext_zero,Array.toList_reverse]
 exact hr
theorem Inv4.first {a b out:Array Keyed} {i j:Nat} (h:Inv4 κ a.toList b.toList out.toList.reverse i j) (sA:Srt κ a.toList) (sB:Srt κ b.toList) (hl:∀ x∈b.toList.take j,∀ y∈a.toList,le κ x y) :
  Res κ a.toList b.toList (b.extract 0 j++a.extract 0 i++out.reverse):=by
 have hr:=h.fin (R:=b.toList.take j++a.toList.take i) List.perm_append_comm (List.pairwise_append.mpr ⟨sB.sublist (List.take_sublist _ _),sA.sublist (List.take_sublist _ _),fun x hx y hy=>hl x hx y (List.mem_of_mem_take hy)⟩)
 unfold Res
 rw[Array.toList_append,Array.toList_append,ext_zero,ext_zero,Array.toList_reverse]
 exact hr
end
end Tim
namespace Tim
open PySem PyProof.Rows
structure SameSt (st st':SortSt):Prop where
 arr:arrOf st'=arrOf st
 pend:pendingOf st'=pendingOf st
 kind:kindOf st'=kindOf st
 failed:failedOf st'=failedOf st
theorem SameSt.refl (st:SortSt):SameSt st st:=⟨rfl,rfl,rfl,rfl⟩
theorem SameSt.gal {st st':SortSt} (h:SameSt st st') (g:Nat):SameSt st (setGal st' g):=⟨h.arr,h.pend,h.kind,h.failed⟩
section
variable {κ:KeyKind}
theorem mem_drop {A:List Keyed} {i:Nat} {x:Keyed} (h:x∈A.drop i):∃ j,A[i+j]?=some x:=by
 obtain⟨j,hj,e⟩:=List.mem_iff_getElem.mp h
 refine⟨j,?_⟩
 rw[List.getElem_drop] at e
 rw[List.length_drop] at hj
 rw[List.getElem?_eq_getElem (by omega),e]
theorem mem_drop_take {A:List Keyed} {i k:Nat} {x:Keyed} (h:x∈(A.drop i).take k):∃ j,j<k/\A[i+j]?=some x:=by
 obtain⟨j,hj,e⟩:=List.mem_iff_getElem.mp h
 rw[List.length_take,List.length_drop] at hj
 rw[List.getElem_take,List.getElem_drop] at e
 exact⟨j,by omega,by rw[List.getElem?_eq_getElem (by omega),e]⟩
theorem srt_get {A:List Keyed} (s:Srt κ A) {i j:Nat} {x y:Keyed} (hij:i<=j) (hx:A[i]?=some x) (hy:A[j]?=some y):le κ x y:=by
 obtain⟨hi,ei⟩:=List.getElem?_eq_some_iff.mp hx
 obtain⟨hj,ej⟩:=List.getElem?_eq_some_iff.mp hy
 by_cases h:i=j
 ·subst h
  rw[ei] at ej
  subst ej
  exact le_refl _
 ·have:=List.pairwise_iff_getElem.mp s i j hi hj (by omega)
  rw[ei,ej] at this
  exact this
theorem toL {a:Array Keyed} {i:Nat} (h:i<a.size):a.toList[i]?=some a[i]:=by rw[Array.getElem?_toList,Array.getElem?_eq_getElem h]
theorem head_le {a:Array Keyed} (s:Srt κ a.toList) {i:Nat} (h:i<a.size):∀ y∈a.toList.drop i,le κ a[i] y:=fun y hy=>by
 obtain⟨j,hj⟩:=mem_drop hy
 exact srt_get s (Nat.le_add_right i j) (toL h) hj
theorem drop_one {a:Array Keyed} {i:Nat} (h:i<a.size):(a.toList.drop i).take 1=[a[i]]:=by
 rw[List.drop_eq_getElem_cons (by simpa using h)]
 simp
theorem srt_seg {a:Array Keyed} (s:Srt κ a.toList) {lo hi:Nat} (h:hi<=a.size):Seg κ a lo hi:=fun i j h1 h2 h3=>by
 have e1:a[i]?=some a[i]:=Array.getElem?_eq_getElem (by omega)
 have e2:a[j]?=some a[j]:=Array.getElem?_eq_getElem (by omega)
 rw[KK_get e1,KK_get e2]
 exact srt_get s h2 (toL (by omega)) (toL (by omega))
theorem Inv3.pushA {a b out:Array Keyed} {i j:Nat} (h:Inv3 κ a.toList b.toList out.toList i j) (sA:Srt κ a.toList) (hi:i<a.size) (hb:∀ y∈b.toList.drop j,le κ a[i] y):Inv3 κ a.toList b.toList (out.push a[i]).toList (i+1) j:=by
 rw[Array.toList_push,← drop_one hi]
 refine h.takeA sA (by simp; omega) fun x hx y hy=>?_
 rw[drop_one hi] at hx
 rw[List.mem_singleton.mp hx]
 exact hb y hy
theorem Inv3.pushB {a b out:Array Keyed} {i j:Nat} (h:Inv3 κ a.toList b.toList out.toList i j) (sB:Srt κ b.toList) (hj:j<b.size) (hb:∀ y∈a.toList.drop i,le κ b[j] y):Inv3 κ a.toList b.toList (out.push b[j]).toList i (j+1):=
 (h.swap.pushA sB hj hb).swap
theorem ext_k {a:Array Keyed} {i k:Nat}:(a.extract i (i+k)).toList=(a.toList.drop i).take k:=by rw[ext_toList]; congr 1; omega
theorem Inv3.appA {a b out:Array Keyed} {i j k:Nat} (h:Inv3 κ a.toList b.toList out.toList i j) (sA:Srt κ a.toList) (hk:i+k<=a.size) (hb:∀ x∈(a.toList.drop i).take k,∀ y∈b.toList.drop j,le κ x y) :
  Inv3 κ a.toList b.toList (out++a.extract i (i+k)).toList (i+k) j:=by
 rw[Array.toList_append,ext_k]
 exact h.takeA sA (by simpa using hk) hb
theorem Inv3.appB {a b out:Array Keyed} {i j k:Nat} (h:Inv3 κ a.toList b.toList out.toList i j) (sB:Srt κ b.toList) (hk:j+k<=b.size) (hb:∀ x∈(b.toList.drop j).take k,∀ y∈a.toList.drop i,le κ x y) :
  Inv3 κ a.toList b.toList (out++b.extract j (j+k)).toList i (j+k):=(h.swap.appA sB hk hb).swap
end
section
variable {prog:Program} {w:World} {A:Around} {E:Value->Shared->Prop} {s:Shared} {κ:KeyKind} {kd:SortKind}
theorem wpS_jp {α:Type} {Q:α->SortSt->Prop} {st:SortSt} {c:Nat->Prop} {d:∀ m,Decidable (c m)} {p q:Nat->_} (F:Nat->_) (e2:∀ m,F m=q m) (e1:∀ m,F (m-1)=p m) (h:∀ m,wpS (model prog w) A E s (F m) Q st):∀ m,wpS (model prog w) A E s (@ite _ (c m) (d m) (p m) (q m)) Q st:=by
 intro m
 by_cases e:c m
 ·rw[if_pos e,← e1]; exact h _
 ·rw[if_neg e,← e2]; exact h _
theorem wpS_setMin {st:SortSt} {g:Nat} {Q:Unit->SortSt->Prop} (h:Q () (setGal st g)):wpS (model prog w) A E s (setMin' g) Q st:=by
 rw[setMin'_eq]; exact wpS_modify h
theorem wpS_mergeLo (hL:LtOk prog w A E s κ kd) {st:SortSt} {a b:Array Keyed} {Q:Array Keyed->SortSt->Prop} (hk:kindOf st=kd) (ka:Keys κ a) (kb:Keys κ b) (sA:Srt κ a.toList) (sB:Srt κ b.toList) (ha:0<a.size) (hb:0<b.size)
  (h1:∀ y∈a.toList,le κ b[0] y) (h2:∀ x∈b.toList,le κ x a[a.size-1]) (h:∀ r st',Res κ a.toList b.toList r->SameSt st st'->Q r st'):wpS (model prog w) A E s (mergeLo' a b) Q st:=by
 have lastOf:∀ i,i+1=a.size->∀ x∈b.toList,∀ y∈a.toList.drop i,le κ x y:=fun i hi x hx y hy=>by
  obtain⟨q,ey⟩:=mem_drop hy
  have hlt:=(List.getElem?_eq_some_iff.mp ey).1
  rw[Array.length_toList] at hlt
  have e:i+q=a.size-1:=by omega
  rw[e,toL (by omega)] at ey
  cases ey
  exact h2 x hx
 have J0:Inv3 κ a.toList b.toList (#[b[0]]:Array Keyed).toList 0 1:=by
  have q:Inv3 κ a.toList b.toList (#[]:Array Keyed).toList 0 0:=⟨Nat.zero_le _,Nat.zero_le _,by simp,List.Pairwise.nil,fun x hx=>by simp at hx,fun x hx=>by simp at hx⟩
  exact Inv3.pushB q sB hb (by simpa using h1)
 show wpS _ _ _ _ (bind _ _) _ _
 refine wpS_bind (wpS_lift (wpAny_rule ⟨rfl,?_⟩))
 dsimp only
 refine wpS_bind (wpS_elem hb ?_)
 by_cases e1:1=b.size
 ·rw[if_pos (beq_iff_eq.mpr e1)]
  exact wpS_pure (h _ _ (J0.done sA sB (.inr e1)) (.refl _))
 rw[if_neg (fun z=>e1 (beq_iff_eq.mp z))]
 by_cases e2:0+1=a.size
 ·rw[if_pos (beq_iff_eq.mpr e2)]
  exact wpS_pure (h _ _ (J0.last sB sA (lastOf 0 e2)) (.refl _))
 rw[if_neg (fun z=>e2 (beq_iff_eq.mp z))]
 refine wpS_bind (wpS_get ?_)
 refine wpS_bind (wpS_mono (wpS_forRange (I:=fun x c st'=>SameSt st st'/\∃ out ia ib mg,c=(none,out,ia,ib,mg)/\Inv3 κ a.toList b.toList out.toList ia ib/\ia+1<a.size/\ib<b.size/\x<=ia+ib)
  (Q:=fun c st'=>SameSt st st'/\∃ r,c.1=some r/\Res κ a.toList b.toList r) ?_ ?_ ⟨.refl _,_,_,_,_,rfl,J0,by omega,by omega,by omega⟩) ?_)
 ·rintro x c st1 _ hx ⟨hss,out0,ia0,ib0,mg0,rfl,J,ia1',ib1',hx'⟩
  dsimp only
  refine wpS_bind (wpS_mono (wpS_forRange (I:=fun y c st2=>SameSt st st2/\∃ out ia ib ac bc,c=(none,out,ia,ib,ac,bc)/\Inv3 κ a.toList b.toList out.toList ia ib/\ia+1<a.size/\ib<b.size/\ia0+ib0+y<=ia+ib)
   (Q:=fun c st2=>SameSt st st2/\((∃ r,c.1=some r/\Res κ a.toList b.toList r)\/∃ out ia ib ac bc,c=(none,out,ia,ib,ac,bc)/\Inv3 κ a.toList b.toList out.toList ia ib/\ia+1<a.size/\ib<b.size/\ia0+ib0+1<=ia+ib)) ?_ ?_ ⟨hss,_,_,_,_,_,rfl,J,ia1',ib1',by omega⟩) ?_)
  ·clear hss J
   rintro y c st2 _ hy ⟨hss,out,ia,ib,ac,bc,rfl,J,hia,hib,hn⟩
   dsimp only
   refine wpS_bind (wpS_elem hib ?_)
   refine wpS_bind (wpS_elem (show ia<a.size by omega) ?_)
   refine wpS_bind (hL _ _ _ _ (hss.kind.trans hk) (kb _ _ (Array.getElem?_eq_getElem hib)) (ka _ _ (Array.getElem?_eq_getElem (by omega))) ?_)
   dsimp only
   cases q:κ.blt (kk κ b[ib]) (kk κ a[ia]) with
   | true=>
    simp only[if_true]
    refine wpS_bind (wpS_elem hib ?_)
    have JB:Inv3 κ a.toList b.toList (out.push b[ib]).toList ia (ib+1):=Inv3.pushB J sB hib fun y hy=>le_trans (le_of_lt q) (head_le sA (by omega) y hy)
    by_cases e3:ib+1=b.size
    ·rw[if_pos (beq_iff_eq.mpr e3)]
     exact wpS_pure ⟨hss,.inl ⟨_,rfl,JB.done sA sB (.inr e3)⟩⟩
    ·rw[if_neg (fun z=>e3 (beq_iff_eq.mp z))]
     split
     ·exact wpS_pure ⟨hss,.inr ⟨_,_,_,_,_,rfl,JB,hia,by omega,by omega⟩⟩
     ·exact wpS_pure ⟨hss,_,_,_,_,_,rfl,JB,hia,by omega,by omega⟩
   | false=>
    simp only[Bool.false_eq_true,if_false]
    refine wpS_bind (wpS_elem (show ia<a.size by omega) ?_)
    have JA:Inv3 κ a.toList b.toList (out.push a[ia]).toList (ia+1) ib:=Inv3.pushA J sA (by omega) fun y hy=>le_trans (le_of_not q) (head_le sB hib y hy)
    by_cases e3:ia+1+1=a.size
    ·rw[if_pos (beq_iff_eq.mpr e3)]
     exact wpS_pure ⟨hss,.inl ⟨_,rfl,JA.last sB sA (lastOf _ e3)⟩⟩
    ·rw[if_neg (fun z=>e3 (beq_iff_eq.mp z))]
     split
     ·exact wpS_pure ⟨hss,.inr ⟨_,_,_,_,_,rfl,JA,by omega,hib,by omega⟩⟩
     ·exact wpS_pure ⟨hss,_,_,_,_,_,rfl,JA,by omega,hib,by omega⟩
  ·rintro c st2 ⟨_,out,ia,ib,ac,bc,rfl,J,hia,hib,hn⟩
   omega
  ·rintro c st2 ⟨hss,h3⟩
   rcases h3 with ⟨r,hr,hres⟩ | ⟨out,ia,ib,ac,bc,rfl,J,hia,hib,hn⟩
   ·obtain⟨c1,c2⟩:=c
    dsimp only at hr
    subst hr
    exact wpS_pure ⟨hss,r,rfl,hres⟩
   ·dsimp only
    refine wpS_bind (wpS_lift (wpAny_rule ⟨rfl,?_⟩))
    refine wpS_bind (wpS_mono (wpS_forRange (I:=fun y c st2=>SameSt st st2/\∃ out ia ib mg ac bc,c=(none,out,ia,ib,mg,ac,bc)/\Inv3 κ a.toList b.toList out.toList ia ib/\ia+1<a.size/\ib<b.size/\ia0+ib0+1<=ia+ib/\y<=ia+ib)
     (Q:=fun c st2=>SameSt st st2/\((∃ r,c.1=some r/\Res κ a.toList b.toList r)\/∃ out ia ib mg ac bc,c=(none,out,ia,ib,mg,ac,bc)/\Inv3 κ a.toList b.toList out.toList ia ib/\ia+1<a.size/\ib<b.size/\ia0+ib0+1<=ia+ib)) ?_ ?_ ⟨hss,_,_,_,_,_,_,rfl,J,hia,hib,hn,by omega⟩) ?_)
    ·clear hss J hia hib hn out ia ib
     rintro y c st2 _ hy ⟨hss,out,ia,ib,mg,ac,bc,rfl,J0',hia,hib,hn,hn2⟩
     dsimp only
     revert mg
     refine wpS_jp _ (fun m=>rfl) (fun m=>rfl) fun mg=>?_
     all_goals
      refine wpS_bind (wpS_setMin ?_)
      refine wpS_bind (wpS_elem hib ?_)
      refine wpS_bind (wpS_gallop hL ((hss.gal _).kind.trans hk) (kb _ _ (Array.getElem?_eq_getElem hib)) ka (by omega) (by omega) (srt_seg sA (by omega)) fun k hk1 pk nk=>?_)
      dsimp only
      have le1:∀ x∈(a.toList.drop ia).take k,∀ y∈b.toList.drop ib,le κ x y:=fun x hx y hy=>by
       obtain⟨q,hq,ex⟩:=mem_drop_take hx
       have:=pk q hq
       rw[KK_get (show a[ia+q]?=some x by rw[<-Array.getElem?_toList]; exact ex)] at this
       exact le_trans (le_of_not (by simpa [byd] using this)) (head_le sB hib y hy)
      have gt1:∀ y∈a.toList.drop (ia+k),le κ b[ib] y:=fun y hy=>by
       obtain⟨q,ey⟩:=mem_drop hy
       have hlt:=(List.getElem?_eq_some_iff.mp ey).1
       rw[Array.length_toList] at hlt
       have:=nk (k+q) (Nat.le_add_right _ _) (by omega)
       rw[KK_get (show a[ia+(k+q)]?=some y by rw[<-Array.getElem?_toList,← Nat.add_assoc]; exact ey)] at this
       exact le_of_lt (by simpa [byd] using this)
      by_cases hk0:k>0
      ·rw[if_pos hk0]
       have J:=Inv3.appA J0' sA (k:=k) (by omega) le1
       by_cases e3:ia+k+1=a.size
       ·rw[if_pos (beq_iff_eq.mpr e3)]
        exact wpS_pure ⟨hss.gal _,.inl ⟨_,rfl,J.last sB sA (lastOf _ e3)⟩⟩
       rw[if_neg (fun z=>e3 (beq_iff_eq.mp z))]
       by_cases e3':ia+k=a.size
       ·rw[if_pos (beq_iff_eq.mpr e3')]
        exact wpS_pure ⟨hss.gal _,.inl ⟨_,rfl,J.done sA sB (.inl e3')⟩⟩
       rw[if_neg (fun z=>e3' (beq_iff_eq.mp z))]
       have J2:=gt1
       refine wpS_bind (wpS_elem (show ib<b.size by omega) ?_)
       have JB:Inv3 κ a.toList b.toList ((out++a.extract ia (ia+k)).push b[ib]).toList (ia+k) (ib+1):=Inv3.pushB J sB (by omega) J2
       by_cases e3:ib+1=b.size
       ·rw[if_pos (beq_iff_eq.mpr e3)]
        exact wpS_pure ⟨hss.gal _,.inl ⟨_,rfl,JB.done sA sB (.inr e3)⟩⟩
       ·rw[if_neg (fun z=>e3 (beq_iff_eq.mp z))]
        refine wpS_bind (wpS_elem (show (ia+k)<a.size by omega) ?_)
        refine wpS_bind (wpS_gallop hL ((hss.gal _).kind.trans hk) (ka _ _ (Array.getElem?_eq_getElem (by omega))) kb (by omega) (by omega) (srt_seg sB (by omega)) fun k2 hk2 p2 n2=>?_)
        dsimp only
        have lt2:∀ x∈(b.toList.drop (ib+1)).take k2,∀ y∈a.toList.drop (ia+k),le κ x y:=fun x hx y hy=>by
         obtain⟨q,hq,ex⟩:=mem_drop_take hx
         have:=p2 q hq
         rw[KK_get (show b[ib+1+q]?=some x by rw[<-Array.getElem?_toList]; exact ex)] at this
         have hlt9:(ia+k)<a.size:=by omega
         exact le_trans (le_of_lt (by simpa [byd] using this)) (head_le sA hlt9 y hy)
        have ge2:∀ y∈b.toList.drop (ib+1+k2),le κ a[(ia+k)] y:=fun y hy=>by
         obtain⟨q,ey⟩:=mem_drop hy
         have hlt:=(List.getElem?_eq_some_iff.mp ey).1
         rw[Array.length_toList] at hlt
         have:=n2 (k2+q) (Nat.le_add_right _ _) (by omega)
         rw[KK_get (show b[ib+1+(k2+q)]?=some y by rw[<-Array.getElem?_toList,← Nat.add_assoc]; exact ey)] at this
         exact le_of_not (by simpa [byd] using this)
        by_cases hk20:k2>0
        ·rw[if_pos hk20]
         have JC:=Inv3.appB JB sB (k:=k2) (by omega) lt2
         by_cases e4:ib+1+k2=b.size
         ·rw[if_pos (beq_iff_eq.mpr e4)]
          exact wpS_pure ⟨hss.gal _,.inl ⟨_,rfl,JC.done sA sB (.inr e4)⟩⟩
         ·rw[if_neg (fun z=>e4 (beq_iff_eq.mp z))]
          have KJ:=JC
          have KB:=ge2
          refine wpS_bind (wpS_elem (show (ia+k)<a.size by omega) ?_)
          have JA:Inv3 κ a.toList b.toList (((out++a.extract ia (ia+k)).push b[ib]++b.extract (ib+1) (ib+1+k2)).push a[(ia+k)]).toList ((ia+k)+1) (ib+1+k2):=Inv3.pushA KJ sA (by omega) KB
          by_cases e5:(ia+k)+1+1=a.size
          ·rw[if_pos (beq_iff_eq.mpr e5)]
           exact wpS_pure ⟨hss.gal _,.inl ⟨_,rfl,JA.last sB sA (lastOf _ e5)⟩⟩
          ·rw[if_neg (fun z=>e5 (beq_iff_eq.mp z))]
           split
           ·exact wpS_pure ⟨hss.gal _,.inr ⟨_,_,_,_,_,_,rfl,JA,by omega,by omega,by omega⟩⟩
           ·exact wpS_pure ⟨hss.gal _,_,_,_,_,_,_,rfl,JA,by omega,by omega,by omega,by omega⟩
        ·rw[if_neg hk20]
         have hk00:k2=0:=by omega
         subst hk00
         have KJ:=JB
         have KB:∀ y∈b.toList.drop (ib+1),le κ a[(ia+k)] y:=ge2
         refine wpS_bind (wpS_elem (show (ia+k)<a.size by omega) ?_)
         have JA:Inv3 κ a.toList b.toList (((out++a.extract ia (ia+k)).push b[ib]).push a[(ia+k)]).toList ((ia+k)+1) (ib+1):=Inv3.pushA KJ sA (by omega) KB
         by_cases e5:(ia+k)+1+1=a.size
         ·rw[if_pos (beq_iff_eq.mpr e5)]
          exact wpS_pure ⟨hss.gal _,.inl ⟨_,rfl,JA.last sB sA (lastOf _ e5)⟩⟩
         ·rw[if_neg (fun z=>e5 (beq_iff_eq.mp z))]
          split
          ·exact wpS_pure ⟨hss.gal _,.inr ⟨_,_,_,_,_,_,rfl,JA,by omega,by omega,by omega⟩⟩
          ·exact wpS_pure ⟨hss.gal _,_,_,_,_,_,_,rfl,JA,by omega,by omega,by omega,by omega⟩
      ·rw[if_neg hk0]
       have hk00:k=0:=by omega
       subst hk00
       have J:=J0'
       have J2:∀ y∈a.toList.drop ia,le κ b[ib] y:=gt1
       refine wpS_bind (wpS_elem (show ib<b.size by omega) ?_)
       have JB:Inv3 κ a.toList b.toList (out.push b[ib]).toList ia (ib+1):=Inv3.pushB J sB (by omega) J2
       by_cases e3:ib+1=b.size
       ·rw[if_pos (beq_iff_eq.mpr e3)]
        exact wpS_pure ⟨hss.gal _,.inl ⟨_,rfl,JB.done sA sB (.inr e3)⟩⟩
       ·rw[if_neg (fun z=>e3 (beq_iff_eq.mp z))]
        refine wpS_bind (wpS_elem (show ia<a.size by omega) ?_)
        refine wpS_bind (wpS_gallop hL ((hss.gal _).kind.trans hk) (ka _ _ (Array.getElem?_eq_getElem (by omega))) kb (by omega) (by omega) (srt_seg sB (by omega)) fun k2 hk2 p2 n2=>?_)
        dsimp only
        have lt2:∀ x∈(b.toList.drop (ib+1)).take k2,∀ y∈a.toList.drop ia,le κ x y:=fun x hx y hy=>by
         obtain⟨q,hq,ex⟩:=mem_drop_take hx
         have:=p2 q hq
         rw[KK_get (show b[ib+1+q]?=some x by rw[<-Array.getElem?_toList]; exact ex)] at this
         have hlt9:ia<a.size:=by omega
         exact le_trans (le_of_lt (by simpa [byd] using this)) (head_le sA hlt9 y hy)
        have ge2:∀ y∈b.toList.drop (ib+1+k2),le κ a[ia] y:=fun y hy=>by
         obtain⟨q,ey⟩:=mem_drop hy
         have hlt:=(List.getElem?_eq_some_iff.mp ey).1
         rw[Array.length_toList] at hlt
         have:=n2 (k2+q) (Nat.le_add_right _ _) (by omega)
         rw[KK_get (show b[ib+1+(k2+q)]?=some y by rw[<-Array.getElem?_toList,← Nat.add_assoc]; exact ey)] at this
         exact le_of_not (by simpa [byd] using this)
        by_cases hk20:k2>0
        ·rw[if_pos hk20]
         have JC:=Inv3.appB JB sB (k:=k2) (by omega) lt2
         by_cases e4:ib+1+k2=b.size
         ·rw[if_pos (beq_iff_eq.mpr e4)]
          exact wpS_pure ⟨hss.gal _,.inl ⟨_,rfl,JC.done sA sB (.inr e4)⟩⟩
         ·rw[if_neg (fun z=>e4 (beq_iff_eq.mp z))]
          have KJ:=JC
          have KB:=ge2
          refine wpS_bind (wpS_elem (show ia<a.size by omega) ?_)
          have JA:Inv3 κ a.toList b.toList ((out.push b[ib]++b.extract (ib+1) (ib+1+k2)).push a[ia]).toList (ia+1) (ib+1+k2):=Inv3.pushA KJ sA (by omega) KB
          by_cases e5:ia+1+1=a.size
          ·rw[if_pos (beq_iff_eq.mpr e5)]
           exact wpS_pure ⟨hss.gal _,.inl ⟨_,rfl,JA.last sB sA (lastOf _ e5)⟩⟩
          ·rw[if_neg (fun z=>e5 (beq_iff_eq.mp z))]
           split
           ·exact wpS_pure ⟨hss.gal _,.inr ⟨_,_,_,_,_,_,rfl,JA,by omega,by omega,by omega⟩⟩
           ·exact wpS_pure ⟨hss.gal _,_,_,_,_,_,_,rfl,JA,by omega,by omega,by omega,by omega⟩
        ·rw[if_neg hk20]
         have hk00:k2=0:=by omega
         subst hk00
         have KJ:=JB
         have KB:∀ y∈b.toList.drop (ib+1),le κ a[ia] y:=ge2
         refine wpS_bind (wpS_elem (show ia<a.size by omega) ?_)
         have JA:Inv3 κ a.toList b.toList ((out.push b[ib]).push a[ia]).toList (ia+1) (ib+1):=Inv3.pushA KJ sA (by omega) KB
         by_cases e5:ia+1+1=a.size
         ·rw[if_pos (beq_iff_eq.mpr e5)]
          exact wpS_pure ⟨hss.gal _,.inl ⟨_,rfl,JA.last sB sA (lastOf _ e5)⟩⟩
         ·rw[if_neg (fun z=>e5 (beq_iff_eq.mp z))]
          split
          ·exact wpS_pure ⟨hss.gal _,.inr ⟨_,_,_,_,_,_,rfl,JA,by omega,by omega,by omega⟩⟩
          ·exact wpS_pure ⟨hss.gal _,_,_,_,_,_,_,rfl,JA,by omega,by omega,by omega,by omega⟩
    ·rintro c st2 ⟨_,out,ia,ib,mg,ac,bc,rfl,J,hia,hib,hn,hn2⟩
     omega
    ·rintro c st2 ⟨hss,h3⟩
     rcases h3 with ⟨r,hr,hres⟩ | ⟨out,ia,ib,mg,ac,bc,rfl,J,hia,hib,hn⟩
     ·obtain⟨c1,c2⟩:=c
      dsimp only at hr
      subst hr
      exact wpS_pure ⟨hss,r,rfl,hres⟩
     ·dsimp only
      refine wpS_bind (wpS_setMin ?_)
      exact wpS_pure ⟨hss.gal _,_,_,_,_,rfl,J,hia,hib,by omega⟩
 ·rintro c st1 ⟨_,out,ia,ib,mg,rfl,J,hia,hib,hn⟩
  omega
 ·rintro c st1 ⟨hss,r,hr,hres⟩
  obtain⟨c1,c2⟩:=c
  dsimp only at hr
  subst hr
  exact wpS_pure (h r st1 hres hss)
end
end Tim
namespace Tim
open PySem PyProof.Rows
section
variable {κ:KeyKind}
theorem mem_take_drop {A:List Keyed} {i k:Nat} {x:Keyed} (h:x∈(A.take i).drop k):∃ j,k<=j/\j<i/\A[j]?=some x:=by
 obtain⟨j,hj,e⟩:=List.mem_iff_getElem.mp h
 rw[List.length_drop,List.length_take] at hj
 rw[List.getElem_drop,List.getElem_take] at e
 exact⟨k+j,by omega,by omega,by rw[List.getElem?_eq_getElem (by omega),e]⟩
theorem mem_take {A:List Keyed} {i:Nat} {x:Keyed} (h:x∈A.take i):∃ j,j<i/\A[j]?=some x:=by
 obtain⟨j,_,h2,h3⟩:=mem_take_drop (k:=0) (by simpa using h)
 exact⟨j,h2,h3⟩
theorem last_le {a:Array Keyed} (s:Srt κ a.toList) {i:Nat} (h:i<a.size):∀ y∈a.toList.take (i+1),le κ y a[i]:=fun y hy=>by
 obtain⟨j,h1,h2⟩:=mem_take hy
 exact srt_get s (by omega) h2 (toL h)
theorem take_one {a:Array Keyed} {i:Nat} (h:i<a.size):(a.toList.take (i+1)).drop i=[a[i]]:=by
 rw[List.take_succ_eq_append_getElem (by simpa using h),List.drop_append_of_le_length (by simp; omega)]
 simp
theorem Inv4.pushA {a b out:Array Keyed} {i j:Nat} (h:Inv4 κ a.toList b.toList out.toList.reverse (i+1) j) (sA:Srt κ a.toList) (hi:i<a.size) (hb:∀ y∈b.toList.take j,le κ y a[i]):Inv4 κ a.toList b.toList (out.push a[i]).toList.reverse i j:=by
 rw[Array.toList_push,List.reverse_append,List.reverse_singleton,← take_one hi]
 refine h.takeA sA (Nat.le_succ _) fun x hx y hy=>?_
 rw[take_one hi] at hx
 rw[List.mem_singleton.mp hx]
 exact hb y hy
theorem Inv4.pushB {a b out:Array Keyed} {i j:Nat} (h:Inv4 κ a.toList b.toList out.toList.reverse i (j+1)) (sB:Srt κ b.toList) (hj:j<b.size) (hb:∀ y∈a.toList.take i,le κ y b[j]):Inv4 κ a.toList b.toList (out.push b[j]).toList.reverse i j:=
 (h.swap.pushA sB hj hb).swap
theorem ext_rev {a out:Array Keyed} {i k:Nat}:(out++(a.extract k i).reverse).toList.reverse=(a.toList.take i).drop k++out.toList.reverse:=by
 rw[Array.toList_append,Array.toList_reverse,List.reverse_append,List.reverse_reverse,ext_toList,List.drop_take]
theorem Inv4.appA {a b out:Array Keyed} {i j k:Nat} (h:Inv4 κ a.toList b.toList out.toList.reverse i j) (sA:Srt κ a.toList) (hk:k<=i) (hb:∀ x∈(a.toList.take i).drop k,∀ y∈b.toList.take j,le κ y x) :
  Inv4 κ a.toList b.toList (out++(a.extract k i).reverse).toList.reverse k j:=by
 rw[ext_rev]
 exact h.takeA sA hk hb
theorem Inv4.appB {a b out:Array Keyed} {i j k:Nat} (h:Inv4 κ a.toList b.toList out.toList.reverse i j) (sB:Srt κ b.toList) (hk:k<=j) (hb:∀ x∈(b.toList.take j).drop k,∀ y∈a.toList.take i,le κ y x) :
  Inv4 κ a.toList b.toList (out++(b.extract k j).reverse).toList.reverse i k:=(h.swap.appA sB hk hb).swap
end
section
variable {prog:Program} {w:World} {A:Around} {E:Value->Shared->Prop} {s:Shared} {κ:KeyKind} {kd:SortKind}
theorem wpS_mergeHi (hL:LtOk prog w A E s κ kd) {st:SortSt} {a b:Array Keyed} {Q:Array Keyed->SortSt->Prop} (hk:kindOf st=kd) (ka:Keys κ a) (kb:Keys κ b) (sA:Srt κ a.toList) (sB:Srt κ b.toList) (ha:0<a.size) (hb:0<b.size)
  (h1:∀ y∈a.toList,le κ b[0] y) (h2:∀ x∈b.toList,le κ x a[a.size-1]) (h:∀ r st',Res κ a.toList b.toList r->SameSt st st'->Q r st'):wpS (model prog w) A E s (mergeHi' a b) Q st:=by
 have firstOf:∀ x∈b.toList.take 1,∀ y∈a.toList,le κ x y:=fun x hx y hy=>by
  obtain⟨j,hj,ex⟩:=mem_take hx
  have e:j=0:=by omega
  subst e
  rw[toL hb] at ex
  cases ex
  exact h1 y hy
 have J0:Inv4 κ a.toList b.toList (#[a[a.size-1]]:Array Keyed).toList.reverse (a.size-1) b.size:=by
  have q:Inv4 κ a.toList b.toList (#[]:Array Keyed).toList.reverse (a.size-1+1) b.size:=⟨by simp; omega,by simp,by
   have e1:a.toList.drop (a.size-1+1)=[]:=List.drop_eq_nil_of_le (by simp; omega)
   have e2:b.toList.drop b.size=[]:=List.drop_eq_nil_of_le (by simp)
   rw[e1,e2]; simp,List.Pairwise.nil,fun x hx=>by simp at hx,fun x hx=>by simp at hx⟩
  exact Inv4.pushA q sA (by omega) fun y hy=>h2 y (List.mem_of_mem_take hy)
 show wpS _ _ _ _ (bind _ _) _ _
 refine wpS_bind (wpS_lift (wpAny_rule ⟨rfl,?_⟩))
 dsimp only
 refine wpS_bind (wpS_elem (show a.size-1<a.size by omega) ?_)
 by_cases e1:a.size-1=0
 ·rw[if_pos (beq_iff_eq.mpr e1)]
  exact wpS_pure (h _ _ (J0.done sA sB (.inl e1)) (.refl _))
 rw[if_neg (fun z=>e1 (beq_iff_eq.mp z))]
 by_cases e2:b.size=1
 ·rw[if_pos (beq_iff_eq.mpr e2)]
  exact wpS_pure (h _ _ (J0.first sA sB (by rw[e2]; exact firstOf)) (.refl _))
 rw[if_neg (fun z=>e2 (beq_iff_eq.mp z))]
 refine wpS_bind (wpS_get ?_)
 refine wpS_bind (wpS_mono (wpS_forRange (I:=fun x c st'=>SameSt st st'/\∃ (na nb:Nat) (out:Array Keyed) (mg:Nat),c=(none,na,nb,out,mg)/\Inv4 κ a.toList b.toList out.toList.reverse na nb/\0<na/\1<nb/\x+na+nb<a.size+b.size)
  (Q:=fun c st'=>SameSt st st'/\∃ r,c.1=some r/\Res κ a.toList b.toList r) ?_ ?_ ⟨.refl _,_,_,_,_,rfl,J0,by omega,by omega,by omega⟩) ?_)
 ·rintro x c st1 _ hx ⟨hss,na0,nb0,out0,mg0,rfl,J,na1',nb1',hx'⟩
  have hna0:na0<=a.size:=by simpa using J.hi
  have hnb0:nb0<=b.size:=by simpa using J.hj
  dsimp only
  refine wpS_bind (wpS_mono (wpS_forRange (I:=fun y c st2=>SameSt st st2/\∃ (na nb:Nat) (out:Array Keyed) (ac bc:Nat),c=(none,na,nb,out,ac,bc)/\Inv4 κ a.toList b.toList out.toList.reverse na nb/\0<na/\1<nb/\na+nb+y<=na0+nb0)
   (Q:=fun c st2=>SameSt st st2/\((∃ r,c.1=some r/\Res κ a.toList b.toList r)\/∃ (na nb:Nat) (out:Array Keyed) (ac bc:Nat),c=(none,na,nb,out,ac,bc)/\Inv4 κ a.toList b.toList out.toList.reverse na nb/\0<na/\1<nb/\na+nb+1<=na0+nb0)) ?_ ?_ ⟨hss,_,_,_,_,_,rfl,J,na1',nb1',by omega⟩) ?_)
  ·clear hss J
   rintro y c st2 _ hy ⟨hss,na,nb,out,ac,bc,rfl,J,hna,hnb,hn⟩
   have la:na<=a.size:=by simpa using J.hi
   have lb:nb<=b.size:=by simpa using J.hj
   obtain⟨i,rfl⟩ : ∃ i,na=i+1:=⟨na-1,by omega⟩
   obtain⟨j,rfl⟩ : ∃ j,nb=j+1:=⟨nb-1,by omega⟩
   dsimp only[Nat.add_one_sub_one]
   refine wpS_bind (wpS_elem (show j<b.size by omega) ?_)
   refine wpS_bind (wpS_elem (show i<a.size by omega) ?_)
   refine wpS_bind (hL _ _ _ _ (hss.kind.trans hk) (kb _ _ (Array.getElem?_eq_getElem (by omega))) (ka _ _ (Array.getElem?_eq_getElem (by omega))) ?_)
   dsimp only
   cases q:κ.blt (kk κ b[j]) (kk κ a[i]) with
   | true=>
    rw[if_pos rfl]
    refine wpS_bind (wpS_elem (show i<a.size by omega) ?_)
    have JA:Inv4 κ a.toList b.toList (out.push a[i]).toList.reverse i (j+1):=Inv4.pushA J sA (by omega) fun y hy=>le_trans (last_le sB (by omega) y hy) (le_of_lt q)
    by_cases e3:i=0
    ·rw[if_pos (beq_iff_eq.mpr e3)]
     exact wpS_pure ⟨hss,.inl ⟨_,rfl,JA.done sA sB (.inl e3)⟩⟩
    ·rw[if_neg (fun z=>e3 (beq_iff_eq.mp z))]
     split
     ·exact wpS_pure ⟨hss,.inr ⟨_,_,_,_,_,rfl,JA,by omega,hnb,by omega⟩⟩
     ·exact wpS_pure ⟨hss,_,_,_,_,_,rfl,JA,by omega,hnb,by omega⟩
   | false=>
    rw[if_neg Bool.false_ne_true]
    refine wpS_bind (wpS_elem (show j<b.size by omega) ?_)
    have JB:Inv4 κ a.toList b.toList (out.push b[j]).toList.reverse (i+1) j:=Inv4.pushB J sB (by omega) fun y hy=>le_trans (last_le sA (by omega) y hy) (le_of_not q)
    by_cases e3:j=1
    ·rw[if_pos (beq_iff_eq.mpr e3)]
     exact wpS_pure ⟨hss,.inl ⟨_,rfl,JB.first sA sB (by rw[e3]; exact firstOf)⟩⟩
    ·rw[if_neg (fun z=>e3 (beq_iff_eq.mp z))]
     split
     ·exact wpS_pure ⟨hss,.inr ⟨_,_,_,_,_,rfl,JB,hna,by omega,by omega⟩⟩
     ·exact wpS_pure ⟨hss,_,_,_,_,_,rfl,JB,hna,by omega,by omega⟩
  ·rintro c st2 ⟨_,na,nb,out,ac,bc,rfl,J,hna,hnb,hn⟩
   omega
  ·rintro c st2 ⟨hss,h3⟩
   rcases h3 with ⟨r,hr,hres⟩ | ⟨na,nb,out,ac,bc,rfl,J,hna,hnb,hn⟩
   ·obtain⟨c1,c2⟩:=c
    dsimp only at hr
    subst hr
    exact wpS_pure ⟨hss,r,rfl,hres⟩
   ·dsimp only
    refine wpS_bind (wpS_lift (wpAny_rule ⟨rfl,?_⟩))
    refine wpS_bind (wpS_mono (wpS_forRange (I:=fun y c st2=>SameSt st st2/\∃ (na nb:Nat) (out:Array Keyed) (mg ac bc:Nat),c=(none,na,nb,out,mg,ac,bc)/\Inv4 κ a.toList b.toList out.toList.reverse na nb/\0<na/\1<nb/\na+nb+1<=na0+nb0/\y+na+nb<=na0+nb0)
     (Q:=fun c st2=>SameSt st st2/\((∃ r,c.1=some r/\Res κ a.toList b.toList r)\/∃ (na nb:Nat) (out:Array Keyed) (mg ac bc:Nat),c=(none,na,nb,out,mg,ac,bc)/\Inv4 κ a.toList b.toList out.toList.reverse na nb/\0<na/\1<nb/\na+nb+1<=na0+nb0)) ?_ ?_ ⟨hss,_,_,_,_,_,_,rfl,J,hna,hnb,hn,by omega⟩) ?_)
    ·clear hss J hna hnb hn out na nb
     rintro y c st2 _ hy ⟨hss,na,nb,out,mg,ac,bc,rfl,J0',hna,hnb,hn,hn2⟩
     have la:na<=a.size:=by simpa using J0'.hi
     have lb:nb<=b.size:=by simpa using J0'.hj
     obtain⟨j,rfl⟩ : ∃ j,nb=j+1:=⟨nb-1,by omega⟩
     dsimp only
     revert mg
     refine wpS_jp _ (fun m=>rfl) (fun m=>rfl) fun mg=>?_
     all_goals
      refine wpS_bind (wpS_setMin ?_)
      dsimp only[Nat.add_one_sub_one]
      refine wpS_bind (wpS_elem (show j<b.size by omega) ?_)
      refine wpS_bind (wpS_gallop hL ((hss.gal _).kind.trans hk) (kb _ _ (Array.getElem?_eq_getElem (by omega))) ka (by omega) (by omega) (srt_seg sA (by omega)) fun k hk1 pk nk=>?_)
      dsimp only
      have gt1:∀ x∈(a.toList.take na).drop k,∀ y∈b.toList.take (j+1),le κ y x:=fun x hx y hy=>by
       obtain⟨q,hq1,hq2,ex⟩:=mem_take_drop hx
       have:=nk q hq1 hq2
       rw[KK_get (show a[0+q]?=some x by rw[Nat.zero_add,← Array.getElem?_toList]; exact ex)] at this
       exact le_trans (last_le sB (by omega) y hy) (le_of_lt (by simpa [byd] using this))
      have le1:∀ y∈a.toList.take k,le κ y b[j]:=fun y hy=>by
       obtain⟨q,hq,ey⟩:=mem_take hy
       have:=pk q hq
       rw[KK_get (show a[0+q]?=some y by rw[Nat.zero_add,← Array.getElem?_toList]; exact ey)] at this
       exact le_of_not (by simpa [byd] using this)
      by_cases hk0:na-k>0
      ·rw[if_pos hk0]
       have J:=Inv4.appA J0' sA hk1 gt1
       by_cases e3:k=0
       ·rw[if_pos (beq_iff_eq.mpr e3)]
        exact wpS_pure ⟨hss.gal _,.inl ⟨_,rfl,J.done sA sB (.inl e3)⟩⟩
       rw[if_neg (fun z=>e3 (beq_iff_eq.mp z))]
       refine wpS_bind (wpS_elem (show j<b.size by omega) ?_)
       have JB:Inv4 κ a.toList b.toList ((out++(a.extract k na).reverse).push b[j]).toList.reverse k j:=Inv4.pushB J sB (by omega) le1
       by_cases e4:j=1
       ·rw[if_pos (beq_iff_eq.mpr e4)]
        exact wpS_pure ⟨hss.gal _,.inl ⟨_,rfl,JB.first sA sB (by rw[e4]; exact firstOf)⟩⟩
       rw[if_neg (fun z=>e4 (beq_iff_eq.mp z))]
       obtain⟨i,hi⟩ : ∃ i,k=i+1:=⟨k-1,by omega⟩
       subst hi
       dsimp only[Nat.add_one_sub_one]
       refine wpS_bind (wpS_elem (show i<a.size by omega) ?_)
       refine wpS_bind (wpS_gallop hL ((hss.gal _).kind.trans hk) (ka _ _ (Array.getElem?_eq_getElem (by omega))) kb (by omega) (by omega) (srt_seg sB (by omega)) fun k2 hk2 p2 n2=>?_)
       dsimp only
       have ge2:∀ x∈(b.toList.take j).drop k2,∀ y∈a.toList.take (i+1),le κ y x:=fun x hx y hy=>by
        obtain⟨q,hq1,hq2,ex⟩:=mem_take_drop hx
        have:=n2 q hq1 hq2
        rw[KK_get (show b[0+q]?=some x by rw[Nat.zero_add,← Array.getElem?_toList]; exact ex)] at this
        exact le_trans (last_le sA (by omega) y hy) (le_of_not (by simpa [byd] using this))
       have lt2:∀ y∈b.toList.take k2,le κ y a[i]:=fun y hy=>by
        obtain⟨q,hq,ey⟩:=mem_take hy
        have:=p2 q hq
        rw[KK_get (show b[0+q]?=some y by rw[Nat.zero_add,← Array.getElem?_toList]; exact ey)] at this
        exact le_of_lt (by simpa [byd] using this)
       by_cases hk20:j-k2>0
       ·rw[if_pos hk20]
        have JC:=Inv4.appB JB sB hk2 ge2
        by_cases e6:k2=1
        ·rw[if_pos (beq_iff_eq.mpr e6)]
         exact wpS_pure ⟨hss.gal _,.inl ⟨_,rfl,JC.first sA sB (by rw[e6]; exact firstOf)⟩⟩
        rw[if_neg (fun z=>e6 (beq_iff_eq.mp z))]
        by_cases e7:k2=0
        ·rw[if_pos (beq_iff_eq.mpr e7)]
         exact wpS_pure ⟨hss.gal _,.inl ⟨_,rfl,JC.done sA sB (.inr e7)⟩⟩
        rw[if_neg (fun z=>e7 (beq_iff_eq.mp z))]
        refine wpS_bind (wpS_elem (show i<a.size by omega) ?_)
        have JA:=Inv4.pushA JC sA (show i<a.size by omega) lt2
        by_cases e5:i=0
        ·rw[if_pos (beq_iff_eq.mpr e5)]
         exact wpS_pure ⟨hss.gal _,.inl ⟨_,rfl,JA.done sA sB (.inl e5)⟩⟩
        ·rw[if_neg (fun z=>e5 (beq_iff_eq.mp z))]
         split
         ·exact wpS_pure ⟨hss.gal _,.inr ⟨_,_,_,_,_,_,rfl,JA,by omega,by omega,by omega⟩⟩
         ·exact wpS_pure ⟨hss.gal _,_,_,_,_,_,_,rfl,JA,by omega,by omega,by omega,by omega⟩
       ·rw[if_neg hk20]
        have ek2:k2=j:=by omega
        subst ek2
        refine wpS_bind (wpS_elem (show i<a.size by omega) ?_)
        have JA:=Inv4.pushA JB sA (show i<a.size by omega) lt2
        by_cases e5:i=0
        ·rw[if_pos (beq_iff_eq.mpr e5)]
         exact wpS_pure ⟨hss.gal _,.inl ⟨_,rfl,JA.done sA sB (.inl e5)⟩⟩
        ·rw[if_neg (fun z=>e5 (beq_iff_eq.mp z))]
         split
         ·exact wpS_pure ⟨hss.gal _,.inr ⟨_,_,_,_,_,_,rfl,JA,by omega,by omega,by omega⟩⟩
         ·exact wpS_pure ⟨hss.gal _,_,_,_,_,_,_,rfl,JA,by omega,by omega,by omega,by omega⟩
      ·rw[if_neg hk0]
       have ek:k=na:=by omega
       subst ek
       refine wpS_bind (wpS_elem (show j<b.size by omega) ?_)
       have JB:Inv4 κ a.toList b.toList (out.push b[j]).toList.reverse k j:=Inv4.pushB J0' sB (by omega) le1
       by_cases e4:j=1
       ·rw[if_pos (beq_iff_eq.mpr e4)]
        exact wpS_pure ⟨hss.gal _,.inl ⟨_,rfl,JB.first sA sB (by rw[e4]; exact firstOf)⟩⟩
       rw[if_neg (fun z=>e4 (beq_iff_eq.mp z))]
       obtain⟨i,hi⟩ : ∃ i,k=i+1:=⟨k-1,by omega⟩
       subst hi
       dsimp only[Nat.add_one_sub_one]
       refine wpS_bind (wpS_elem (show i<a.size by omega) ?_)
       refine wpS_bind (wpS_gallop hL ((hss.gal _).kind.trans hk) (ka _ _ (Array.getElem?_eq_getElem (by omega))) kb (by omega) (by omega) (srt_seg sB (by omega)) fun k2 hk2 p2 n2=>?_)
       dsimp only
       have ge2:∀ x∈(b.toList.take j).drop k2,∀ y∈a.toList.take (i+1),le κ y x:=fun x hx y hy=>by
        obtain⟨q,hq1,hq2,ex⟩:=mem_take_drop hx
        have:=n2 q hq1 hq2
        rw[KK_get (show b[0+q]?=some x by rw[Nat.zero_add,← Array.getElem?_toList]; exact ex)] at this
        exact le_trans (last_le sA (by omega) y hy) (le_of_not (by simpa [byd] using this))
       have lt2:∀ y∈b.toList.take k2,le κ y a[i]:=fun y hy=>by
        obtain⟨q,hq,ey⟩:=mem_take hy
        have:=p2 q hq
        rw[KK_get (show b[0+q]?=some y by rw[Nat.zero_add,← Array.getElem?_toList]; exact ey)] at this
        exact le_of_lt (by simpa [byd] using this)
       by_cases hk20:j-k2>0
       ·rw[if_pos hk20]
        have JC:=Inv4.appB JB sB hk2 ge2
        by_cases e6:k2=1
        ·rw[if_pos (beq_iff_eq.mpr e6)]
         exact wpS_pure ⟨hss.gal _,.inl ⟨_,rfl,JC.first sA sB (by rw[e6]; exact firstOf)⟩⟩
        rw[if_neg (fun z=>e6 (beq_iff_eq.mp z))]
        by_cases e7:k2=0
        ·rw[if_pos (beq_iff_eq.mpr e7)]
         exact wpS_pure ⟨hss.gal _,.inl ⟨_,rfl,JC.done sA sB (.inr e7)⟩⟩
        rw[if_neg (fun z=>e7 (beq_iff_eq.mp z))]
        refine wpS_bind (wpS_elem (show i<a.size by omega) ?_)
        have JA:=Inv4.pushA JC sA (show i<a.size by omega) lt2
        by_cases e5:i=0
        ·rw[if_pos (beq_iff_eq.mpr e5)]
         exact wpS_pure ⟨hss.gal _,.inl ⟨_,rfl,JA.done sA sB (.inl e5)⟩⟩
        ·rw[if_neg (fun z=>e5 (beq_iff_eq.mp z))]
         split
         ·exact wpS_pure ⟨hss.gal _,.inr ⟨_,_,_,_,_,_,rfl,JA,by omega,by omega,by omega⟩⟩
         ·exact wpS_pure ⟨hss.gal _,_,_,_,_,_,_,rfl,JA,by omega,by omega,by omega,by omega⟩
       ·rw[if_neg hk20]
        have ek2:k2=j:=by omega
        subst ek2
        refine wpS_bind (wpS_elem (show i<a.size by omega) ?_)
        have JA:=Inv4.pushA JB sA (show i<a.size by omega) lt2
        by_cases e5:i=0
        ·rw[if_pos (beq_iff_eq.mpr e5)]
         exact wpS_pure ⟨hss.gal _,.inl ⟨_,rfl,JA.done sA sB (.inl e5)⟩⟩
        ·rw[if_neg (fun z=>e5 (beq_iff_eq.mp z))]
         split
         ·exact wpS_pure ⟨hss.gal _,.inr ⟨_,_,_,_,_,_,rfl,JA,by omega,by omega,by omega⟩⟩
         ·exact wpS_pure ⟨hss.gal _,_,_,_,_,_,_,rfl,JA,by omega,by omega,by omega,by omega⟩
    ·rintro c st2 ⟨_,na,nb,out,mg,ac,bc,rfl,J,hna,hnb,hn,hn2⟩
     omega
    ·rintro c st2 ⟨hss,h3⟩
     rcases h3 with ⟨r,hr,hres⟩ | ⟨na,nb,out,mg,ac,bc,rfl,J,hna,hnb,hn⟩
     ·obtain⟨c1,c2⟩:=c
      dsimp only at hr
      subst hr
      exact wpS_pure ⟨hss,r,rfl,hres⟩
     ·dsimp only
      refine wpS_bind (wpS_setMin ?_)
      exact wpS_pure ⟨hss.gal _,_,_,_,_,rfl,J,hna,hnb,by omega⟩
 ·rintro c st1 ⟨_,na,nb,out,mg,rfl,J,hna,hnb,hn⟩
  omega
 ·rintro c st1 ⟨hss,r,hr,hres⟩
  obtain⟨c1,c2⟩:=c
  dsimp only at hr
  subst hr
  exact wpS_pure (h r st1 hres hss)
end
end Tim
namespace Tim
open PySem PyProof.Rows
structure Base (st st':SortSt) (lo hi:Nat):Prop where
 perm:(arrOf st').Perm (arrOf st)
 out:∀ i:Nat,(i<lo\/hi<=i)->(arrOf st')[i]?=(arrOf st)[i]?
 kind:kindOf st'=kindOf st
 failed:failedOf st'=failedOf st
 pend:pendingOf st'=pendingOf st
theorem Base.refl (st:SortSt) (lo hi:Nat):Base st st lo hi:=⟨.refl _,fun _ _=>rfl,rfl,rfl,rfl⟩
theorem Base.size {st st':SortSt} {lo hi:Nat} (h:Base st st' lo hi):(arrOf st').size=(arrOf st).size:=h.perm.size_eq
theorem Base.trans {st st1 st2:SortSt} {lo hi lo1 hi1:Nat} (h:Base st st1 lo hi) (g:Base st1 st2 lo1 hi1) (h1:lo<=lo1) (h2:hi1<=hi):Base st st2 lo hi:=
 ⟨g.perm.trans h.perm,fun i hi'=>(g.out i (by omega)).trans (h.out i hi'),g.kind.trans h.kind,g.failed.trans h.failed,g.pend.trans h.pend⟩
theorem Base.wide {st st1:SortSt} {lo hi lo1 hi1:Nat} (g:Base st st1 lo1 hi1) (h1:lo<=lo1) (h2:hi1<=hi):Base st st1 lo hi:=(Base.refl st lo hi).trans g h1 h2
theorem Base.bubble {st:SortSt} {src d:Nat} (hs:src<(arrOf st).size) (hd:d<=src):Base st (setArr st (PyProof.Rows.bubble (arrOf st) src d)) (src-d) (src+1):=
 ⟨bubble_perm _ _ _,fun i hi=>by
  show (PyProof.Rows.bubble (arrOf st) src d)[i]?=_
  rw[getElem?_bubble hs d hd,if_neg (by omega),if_neg (by omega)],rfl,rfl,rfl⟩
theorem Base.mirror {st:SortSt} {i j:Nat} (hj:j<=(arrOf st).size):Base st (setArr st (PyProof.Rows.mirror (arrOf st) i j ((j-i)/2))) i j:=
 ⟨mirror_perm _ _ _ _,fun k hk=>by
  show (PyProof.Rows.mirror (arrOf st) i j ((j-i)/2))[k]?=_
  rw[getElem?_mirror_all hj,if_neg (by omega)],rfl,rfl,rfl⟩
def NSeg (κ:KeyKind) (a:Array Keyed) (lo hi:Nat):Prop:=∀ i j,lo<=i->i<=j->j<hi->κ.kle (KK κ a j) (KK κ a i)
theorem seg_one {κ:KeyKind} {a:Array Keyed} {lo:Nat}:Seg κ a lo (lo+1):=fun i j h1 h2 h3=>by
 have:i=j:=by omega
 subst this; exact KeyOrd.kle_refl _
section
variable {prog:Program} {w:World} {A:Around} {E:Value->Shared->Prop} {s:Shared} {κ:KeyKind} {kd:SortKind}
theorem wpS_ltAtG (hL:LtOk prog w A E s κ kd) {st:SortSt} {i j:Nat} {Q:Option Bool->SortSt->Prop} (hk:kindOf st=kd) (ka:Keys κ (arrOf st)) (hi:i<(arrOf st).size) (hj:j<(arrOf st).size)
  (h:Q (some (κ.blt (KK κ (arrOf st) i) (KK κ (arrOf st) j))) st):wpS (model prog w) A E s (ltAt' i j) Q st:=by
 rw[ltAt'_eq]
 refine wpS_bind (wpS_get ?_)
 refine wpS_bind (wpS_elem hi (wpS_bind (wpS_elem hj ?_)))
 have e1:=Array.getElem?_eq_getElem hi
 have e2:=Array.getElem?_eq_getElem hj
 rw[KK_get e1,KK_get e2] at h
 exact hL st _ _ _ hk (ka _ _ e1) (ka _ _ e2) h
theorem wpS_binarySortG (hL:LtOk prog w A E s κ kd) {st:SortSt} {lo n ok:Nat} {Q:Bool->SortSt->Prop} (hk:kindOf st=kd) (ka:Keys κ (arrOf st)) (hn:lo+n<=(arrOf st).size) (hok:ok<=n) (hs:Seg κ (arrOf st) lo (lo+ok))
  (h:∀ st',Base st st' lo (lo+n)->Seg κ (arrOf st') lo (lo+n)->Q true st'):wpS (model prog w) A E s (binarySort' lo n ok) Q st:=by
 rw[binarySort'_eq]
 refine wpS_bind (wpS_mono (wpS_forRange (I:=fun k c st'=>c=(none,())/\Base st st' lo (lo+n)/\Seg κ (arrOf st') lo (lo+min k n))
  (Q:=fun c st'=>c=(none,())/\Base st st' lo (lo+n)/\Seg κ (arrOf st') lo (lo+n)) ?step ?fin ?init) ?post)
 case post=>
  rintro c st' ⟨rfl,hB',hs'⟩
  exact wpS_pure (h st' hB' hs')
 case init=>
  refine⟨rfl,.refl _ _ _,fun i j h1 hij hj=>?_⟩
  by_cases h1:ok=0
  ·have:i=j:=by omega
   subst this; exact KeyOrd.kle_refl _
  ·exact hs i j (by omega) hij (by omega)
 case fin=>
  rintro c st' ⟨hc,hB',hs'⟩
  refine⟨hc,hB',?_⟩
  rwa [show min (max (max ok 1) n) n=n by omega] at hs'
 case step=>
  rintro k c st' hak hkn ⟨rfl,hB',hs'⟩
  rw[show min k n=k by omega] at hs'
  have hsz:=hB'.size
  have ka':Keys κ (arrOf st'):=ka.perm hB'.perm
  have hk':kindOf st'=kd:=hB'.kind.trans hk
  refine wpS_bind (wpS_mono (wpS_forRange (I:=fun x c st''=>st''=st'/\∃ l r,c=(none,l,r)/\l<=r/\r<=k/\r-l<=k-x /\
    (∀ i,i<l->κ.kle (KK κ (arrOf st') (lo+i)) (KK κ (arrOf st') (lo+k)))/\(∀ i,r<=i->i<k->κ.klt (KK κ (arrOf st') (lo+k)) (KK κ (arrOf st') (lo+i))))
   (Q:=fun c st''=>st''=st'/\∃ l r,c=(none,l,r)/\l<=k /\
    (∀ i,i<l->κ.kle (KK κ (arrOf st') (lo+i)) (KK κ (arrOf st') (lo+k)))/\(∀ i,l<=i->i<k->κ.klt (KK κ (arrOf st') (lo+k)) (KK κ (arrOf st') (lo+i)))) ?istep ?ifin ?iinit) ?ipost)
  case iinit=>exact⟨rfl,0,k,rfl,by omega,by omega,by omega,fun i hi=>by omega,fun i h1 h2=>by omega⟩
  case ifin=>
   rintro c st'' ⟨rfl,l,r,rfl,hlr,hrk,hm,hlo,hhi⟩
   have:l=r:=by omega
   subst this
   exact⟨rfl,l,l,rfl,hrk,hlo,hhi⟩
  case istep=>
   rintro x c st'' _ hxk ⟨rfl,l,r,rfl,hlr,hrk,hm,hlo,hhi⟩
   dsimp only
   by_cases hge:l≥r
   ·rw[if_pos hge]
    have:l=r:=by omega
    subst this
    exact wpS_pure ⟨rfl,l,l,rfl,hrk,hlo,hhi⟩
   ·rw[if_neg hge]
    refine wpS_bind (wpS_ltAtG hL hk' ka' (by omega) (by omega) ?_)
    cases hless:κ.blt (KK κ (arrOf st'') (lo+k)) (KK κ (arrOf st'') (lo+(l+r)/2))
    case true=>
     simp only[if_true]
     refine wpS_pure ⟨rfl,l,(l+r)/2,rfl,by omega,by omega,by omega,hlo,fun i h1 h2=>?_⟩
     exact KeyOrd.klt_of_klt_of_kle hless (hs' _ _ (by omega) (by omega) (by omega))
    case false=>
     simp only[Bool.false_eq_true,if_false]
     refine wpS_pure ⟨rfl,(l+r)/2+1,r,rfl,by omega,by omega,by omega,fun i h1=>?_,hhi⟩
     exact KeyOrd.kle_trans (hs' (lo+i) (lo+(l+r)/2) (by omega) (by omega) (by omega)) (show κ.kle _ _ from hless)
  case ipost=>
   rintro c st'' ⟨rfl,l,r,rfl,hlk,hlo,hhi⟩
   dsimp only
   rw[moveDown'_eq]
   have hks:lo+k<(arrOf st'').size:=by omega
   have hd:lo+k-(lo+l)<=lo+k:=by omega
   have bb:=Base.bubble (d:=lo+k-(lo+l)) hks hd
   refine wpS_bind (wpS_modify (wpS_pure ⟨rfl,hB'.trans bb (by omega) (by omega),?_⟩))
   rw[show min (k+1) n=k+1 by omega]
   intro i j hi0 hij hj
   show κ.kle (KK κ (PyProof.Rows.bubble (arrOf st'') (lo+k) (lo+k-(lo+l))) i) (KK κ (PyProof.Rows.bubble (arrOf st'') (lo+k) (lo+k-(lo+l))) j)
   rw[KK_bubble hks hd,KK_bubble hks hd,show lo+k-(lo+k-(lo+l))=lo+l by omega]
   have hlo':∀ i,lo<=i->i<lo+l->κ.kle (KK κ (arrOf st'') i) (KK κ (arrOf st'') (lo+k)):=fun i h1 h2=>by
    have:=hlo (i-lo) (by omega)
    rwa [show lo+(i-lo)=i by omega] at this
   have hhi':∀ i,lo+l<=i->i<lo+k->κ.klt (KK κ (arrOf st'') (lo+k)) (KK κ (arrOf st'') i):=fun i h1 h2=>by
    have:=hhi (i-lo) (by omega) (by omega)
    rwa [show lo+(i-lo)=i by omega] at this
   repeat' split
   all_goals first
    | (exfalso; omega)
    | exact KeyOrd.kle_refl _
    | exact hlo' _ (by omega) (by omega)
    | exact KeyOrd.kle_of_klt (hhi' _ (by omega) (by omega))
    | exact hs' _ _ (by omega) (by omega) (by omega)
theorem wpS_countRunG (hL:LtOk prog w A E s κ kd) {st:SortSt} {lo nrem:Nat} {Q:Option Nat->SortSt->Prop} (hk:kindOf st=kd) (ka:Keys κ (arrOf st)) (hn:lo+nrem<=(arrOf st).size) (h1:1<=nrem)
  (h:∀ m st',Base st st' lo (lo+nrem)->1<=m->m<=nrem->Seg κ (arrOf st') lo (lo+m)->Q (some m) st'):wpS (model prog w) A E s (countRun' lo nrem) Q st:=by
 rw[countRun'_eq]
 have more:∀ (a:Array Keyed) (x:Nat),1<=x->Seg κ a lo (lo+x)->κ.blt (KK κ a (lo+x)) (KK κ a (lo+x-1))=false->Seg κ a lo (lo+(x+1)):=fun a x hx hs' hless i j hi hij hj=>by
  by_cases hjx:j<lo+x
  ·exact hs' i j hi hij hjx
  ·have hj':j=lo+x:=by omega
   subst hj'
   by_cases hi':i=lo+x
   ·subst hi'; exact KeyOrd.kle_refl _
   ·exact KeyOrd.kle_trans (hs' i (lo+x-1) (by omega) (by omega) (by omega)) hless
 refine wpS_bind (wpS_mono (wpS_forRange (I:=fun x c st'=>st'=st/\c=(none,x)/\Seg κ (arrOf st) lo (lo+x))
  (Q:=fun c st'=>st'=st/\∃ n,c=(none,n)/\1<=n/\n<=nrem/\Seg κ (arrOf st) lo (lo+n)/\(n=nrem\/κ.klt (KK κ (arrOf st) (lo+n)) (KK κ (arrOf st) (lo+n-1)))) ?_ ?_ ⟨rfl,rfl,seg_one⟩) ?_)
 ·rintro x c st' hax hxn ⟨rfl,rfl,hs'⟩
  dsimp only
  refine wpS_bind (wpS_ltAtG hL hk ka (by omega) (by omega) ?_)
  cases hless:κ.blt (KK κ (arrOf st') (lo+x)) (KK κ (arrOf st') (lo+x-1))
  case true=>
   simp only[if_true]
   exact wpS_pure ⟨rfl,x,rfl,hax,by omega,hs',.inr hless⟩
  case false=>
   simp only[Bool.false_eq_true,if_false]
   exact wpS_pure ⟨rfl,rfl,more _ x hax hs' hless⟩
 ·rintro c st' ⟨rfl,rfl,hs'⟩
  rw[show max 1 nrem=nrem by omega] at hs' ⊢
  exact⟨rfl,nrem,rfl,h1,Nat.le_refl _,hs',.inl rfl⟩
 rintro c st' ⟨rfl,n,rfl,hn1,hn2,hsn,hor⟩
 dsimp only
 by_cases hnn:n=nrem
 ·rw[if_pos (by simpa using hnn)]
  exact wpS_pure (h n st' (.refl _ _ _) hn1 hn2 hsn)
 rw[if_neg (by simpa using hnn)]
 have hlt:κ.klt (KK κ (arrOf st') (lo+n)) (KK κ (arrOf st') (lo+n-1)):=hor.resolve_left hnn
 have fall:∀ (st2:SortSt),Base st' st2 lo (lo+nrem)->NSeg κ (arrOf st2) lo (lo+(n+1))->True:=fun _ _ _=>trivial
 by_cases hgt:n>1
 ·rw[if_pos hgt]
  refine wpS_bind (wpS_ltAtG hL hk ka (by omega) (by omega) ?_)
  cases hrose:κ.blt (KK κ (arrOf st') lo) (KK κ (arrOf st') (lo+n-1))
  case true=>
   simp only[if_true]
   exact wpS_pure (h n st' (.refl _ _ _) hn1 hn2 hsn)
  simp only[Bool.false_eq_true,if_false]
  have hsz:lo+n<=(arrOf st').size:=by omega
  have hall:∀ k,lo<=k->k<lo+n->KK κ (arrOf st') k=KK κ (arrOf st') (lo+n-1):=by
   intro k hk1 hk2
   have a1:=hsn lo k (Nat.le_refl _) hk1 hk2
   have a2:=hsn k (lo+n-1) hk1 (by omega) (by omega)
   exact KeyOrd.kle_antisymm a2 (KeyOrd.kle_trans hrose a1)
  refine wpS_bind (wpS_reverse ?_)
  have hB2:Base st' (setArr st' (PyProof.Rows.mirror (arrOf st') lo (lo+n) ((lo+n-lo)/2))) lo (lo+nrem):=(Base.mirror hsz).wide (Nat.le_refl _) (by omega)
  have hN2:NSeg κ (arrOf (setArr st' (PyProof.Rows.mirror (arrOf st') lo (lo+n) ((lo+n-lo)/2)))) lo (lo+(n+1)):=by
   intro i j hi hij hj
   show κ.kle (KK κ (PyProof.Rows.mirror (arrOf st') _ _ _) j) (KK κ (PyProof.Rows.mirror (arrOf st') _ _ _) i)
   rw[KK_mirror_equal hsz hall,KK_mirror_equal hsz hall]
   by_cases hjn:j<lo+n
   ·rw[hall i (by omega) (by omega),hall j (by omega) hjn]; exact KeyOrd.kle_refl _
   ·have hj':j=lo+n:=by omega
    subst hj'
    by_cases hi':i=lo+n
    ·subst hi'; exact KeyOrd.kle_refl _
    ·rw[hall i (by omega) (by omega)]; exact KeyOrd.kle_of_klt hlt
  revert hB2 hN2
  generalize setArr st' (PyProof.Rows.mirror (arrOf st') lo (lo+n) ((lo+n-lo)/2))=st2
  intro hB2 hN2
  clear hrose hsz hall
  refine wpS_bind (wpS_lift (wpAny_rule ⟨rfl,?_⟩))
  refine wpS_bind (wpS_mono (wpS_forRange (I:=fun x c st3=>∃ neq,c=(none,x,neq)/\Base st' st3 lo (lo+nrem)/\NSeg κ (arrOf st3) lo (lo+x)/\neq+1<=x/\(∀ i,lo+x-(neq+1)<=i->i<lo+x->KK κ (arrOf st3) i=KK κ (arrOf st3) (lo+x-1)))
   (Q:=fun c st3=>∃ m neq,c=(none,m,neq)/\Base st' st3 lo (lo+nrem)/\1<=m/\m<=nrem/\NSeg κ (arrOf st3) lo (lo+m)/\neq+1<=m/\(∀ i,lo+m-(neq+1)<=i->i<lo+m->KK κ (arrOf st3) i=KK κ (arrOf st3) (lo+m-1)))
   ?_ ?_ ⟨0,rfl,hB2,hN2,by omega,fun i g1 g2=>by congr 1; omega⟩) ?_)
  ·rintro x c st3 hax hxn ⟨neq,rfl,hB3,hN3,hq,he⟩
   dsimp only
   have hz3:=hB3.size
   have ka3:Keys κ (arrOf st3):=ka.perm hB3.perm
   have hk3:kindOf st3=kd:=hB3.kind.trans hk
   have hsz:lo+x<=(arrOf st3).size:=by omega
   refine wpS_bind (wpS_ltAtG hL hk3 ka3 (by omega) (by omega) ?_)
   cases hless:κ.blt (KK κ (arrOf st3) (lo+x)) (KK κ (arrOf st3) (lo+x-1))
   case true=>
    simp only[if_true]
    have step1:∀ xs:Array Keyed,(∀ k,KK κ xs k=KK κ (arrOf st3) k)->NSeg κ xs lo (lo+(x+1)):=by
     intro xs hkk i j hi hij hj
     rw[hkk,hkk]
     by_cases hjx:j<lo+x
     ·exact hN3 i j hi hij hjx
     ·have hj':j=lo+x:=by omega
      subst hj'
      by_cases hi':i=lo+x
      ·subst hi'; exact KeyOrd.kle_refl _
      ·exact KeyOrd.kle_trans (KeyOrd.kle_of_klt hless) (hN3 i (lo+x-1) hi (by omega) (by omega))
    by_cases hneq:neq>0
    ·rw[if_pos hneq]
     refine wpS_bind (wpS_reverse (wpS_pure ⟨0,rfl,hB3.trans (Base.mirror hsz) (by omega) (by omega),step1 _ (KK_mirror_equal hsz he),by omega,fun i g1 g2=>by congr 1; omega⟩))
    ·rw[if_neg hneq]
     exact wpS_pure ⟨0,rfl,hB3,step1 _ (fun _=>rfl),by omega,fun i g1 g2=>by congr 1; omega⟩
   case false=>
    simp only[Bool.false_eq_true,if_false]
    refine wpS_bind (wpS_ltAtG hL hk3 ka3 (by omega) (by omega) ?_)
    cases hlarger:κ.blt (KK κ (arrOf st3) (lo+x-1)) (KK κ (arrOf st3) (lo+x))
    case true=>
     simp only[if_true]
     exact wpS_pure ⟨x,neq,rfl,hB3,by omega,by omega,hN3,hq,he⟩
    case false=>
     simp only[Bool.false_eq_true,if_false]
     have heqx:KK κ (arrOf st3) (lo+x)=KK κ (arrOf st3) (lo+x-1):=KeyOrd.kle_antisymm hlarger hless
     refine wpS_pure ⟨neq+1,rfl,hB3,fun i j hi hij hj=>?_,by omega,fun i g1 g2=>?_⟩
     ·by_cases hjx:j<lo+x
      ·exact hN3 i j hi hij hjx
      ·have hj':j=lo+x:=by omega
       subst hj'
       by_cases hi':i=lo+x
       ·subst hi'; exact KeyOrd.kle_refl _
       ·rw[heqx]; exact hN3 i (lo+x-1) hi (by omega) (by omega)
     ·rw[show lo+(x+1)-1=lo+x by omega]
      by_cases hix:i=lo+x
      ·subst hix; rfl
      ·rw[heqx]; exact he i (by omega) (by omega)
  ·rintro c st3 ⟨neq,rfl,hB3,hN3,hq,he⟩
   rw[show max (n+1) nrem=nrem by omega] at hN3 hq he ⊢
   exact⟨nrem,neq,rfl,hB3,h1,Nat.le_refl _,hN3,hq,he⟩
  rintro c st3 ⟨m,neq,rfl,hB3,hm1,hm2,hN3,hq,he⟩
  dsimp only
  have hz3:=hB3.size
  have hsz:lo+m<=(arrOf st3).size:=by omega
  have tail:∀ st4:SortSt,Base st' st4 lo (lo+nrem)->NSeg κ (arrOf st4) lo (lo+m)->Base st' (setArr st4 (PyProof.Rows.mirror (arrOf st4) lo (lo+m) ((lo+m-lo)/2))) lo (lo+nrem)/\Seg κ (arrOf (setArr st4 (PyProof.Rows.mirror (arrOf st4) lo (lo+m) ((lo+m-lo)/2)))) lo (lo+m):=fun st4 hB4 hN4=>by
   have hz4:=hB4.size
   have hsz4:lo+m<=(arrOf st4).size:=by omega
   refine⟨hB4.trans (Base.mirror hsz4) (Nat.le_refl _) (by omega),fun i j hi hij hj=>?_⟩
   show κ.kle (KK κ (PyProof.Rows.mirror (arrOf st4) lo (lo+m) ((lo+m-lo)/2)) i) (KK κ (PyProof.Rows.mirror (arrOf st4) lo (lo+m) ((lo+m-lo)/2)) j)
   rw[KK_mirror hsz4,KK_mirror hsz4,if_pos (by omega),if_pos (by omega)]
   exact hN4 _ _ (by omega) (by omega) (by omega)
  by_cases hneq:neq>0
  ·rw[if_pos hneq]
   refine wpS_bind (wpS_reverse ?_)
   obtain⟨hB5,hS5⟩:=tail _ (hB3.trans (Base.mirror (i:=lo+m-(neq+1)) hsz) (by omega) (by omega)) (fun i j hi hij hj=>by
    show κ.kle (KK κ (PyProof.Rows.mirror (arrOf st3) _ _ _) j) (KK κ (PyProof.Rows.mirror (arrOf st3) _ _ _) i)
    rw[KK_mirror_equal hsz he,KK_mirror_equal hsz he]
    exact hN3 i j hi hij hj)
   refine wpS_bind (wpS_reverse ?_)
   revert hB5 hS5
   generalize setArr _ (PyProof.Rows.mirror _ lo (lo+m) ((lo+m-lo)/2))=st5
   intro hB5 hS5
   have hz5:=hB5.size
   have ka5:Keys κ (arrOf st5):=ka.perm hB5.perm
   have hk5:kindOf st5=kd:=hB5.kind.trans hk
   refine wpS_bind (wpS_mono (wpS_forRange (I:=fun x c st6=>st6=st5/\c=(none,x)/\Seg κ (arrOf st5) lo (lo+x))
    (Q:=fun c st6=>st6=st5/\∃ n,c=(none,n)/\1<=n/\n<=nrem/\Seg κ (arrOf st5) lo (lo+n)) ?_ ?_ ⟨rfl,rfl,hS5⟩) ?_)
   ·rintro x c st6 hax hxn ⟨rfl,rfl,hs'⟩
    dsimp only
    refine wpS_bind (wpS_ltAtG hL hk5 ka5 (by omega) (by omega) ?_)
    cases hless:κ.blt (KK κ (arrOf st6) (lo+x)) (KK κ (arrOf st6) (lo+x-1))
    case true=>
     simp only[if_true]
     exact wpS_pure ⟨rfl,x,rfl,by omega,by omega,hs'⟩
    case false=>
     simp only[Bool.false_eq_true,if_false]
     exact wpS_pure ⟨rfl,rfl,more _ x (by omega) hs' hless⟩
   ·rintro c st6 ⟨rfl,rfl,hs'⟩
    rw[show max m nrem=nrem by omega] at hs' ⊢
    exact⟨rfl,nrem,rfl,h1,Nat.le_refl _,hs'⟩
   ·rintro c st6 ⟨rfl,n6,rfl,g1,g2,hs'⟩
    exact wpS_pure (h n6 _ hB5 g1 g2 hs')
  ·rw[if_neg hneq]
   obtain⟨hB5,hS5⟩:=tail _ hB3 hN3
   refine wpS_bind (wpS_reverse ?_)
   revert hB5 hS5
   generalize setArr _ (PyProof.Rows.mirror _ lo (lo+m) ((lo+m-lo)/2))=st5
   intro hB5 hS5
   have hz5:=hB5.size
   have ka5:Keys κ (arrOf st5):=ka.perm hB5.perm
   have hk5:kindOf st5=kd:=hB5.kind.trans hk
   refine wpS_bind (wpS_mono (wpS_forRange (I:=fun x c st6=>st6=st5/\c=(none,x)/\Seg κ (arrOf st5) lo (lo+x))
    (Q:=fun c st6=>st6=st5/\∃ n,c=(none,n)/\1<=n/\n<=nrem/\Seg κ (arrOf st5) lo (lo+n)) ?_ ?_ ⟨rfl,rfl,hS5⟩) ?_)
   ·rintro x c st6 hax hxn ⟨rfl,rfl,hs'⟩
    dsimp only
    refine wpS_bind (wpS_ltAtG hL hk5 ka5 (by omega) (by omega) ?_)
    cases hless:κ.blt (KK κ (arrOf st6) (lo+x)) (KK κ (arrOf st6) (lo+x-1))
    case true=>
     simp only[if_true]
     exact wpS_pure ⟨rfl,x,rfl,by omega,by omega,hs'⟩
    case false=>
     simp only[Bool.false_eq_true,if_false]
     exact wpS_pure ⟨rfl,rfl,more _ x (by omega) hs' hless⟩
   ·rintro c st6 ⟨rfl,rfl,hs'⟩
    rw[show max m nrem=nrem by omega] at hs' ⊢
    exact⟨rfl,nrem,rfl,h1,Nat.le_refl _,hs'⟩
   ·rintro c st6 ⟨rfl,n6,rfl,g1,g2,hs'⟩
    exact wpS_pure (h n6 _ hB5 g1 g2 hs')
 ·rw[if_neg hgt]
  have hB2:Base st' st' lo (lo+nrem):=.refl _ _ _
  have hN2:NSeg κ (arrOf st') lo (lo+(n+1)):=by
   have hn1':n=1:=by omega
   subst hn1'
   intro i j hi hij hj
   by_cases hi':i=j
   ·subst hi'; exact KeyOrd.kle_refl _
   ·have hi0:i=lo:=by omega
    have hj1:j=lo+1:=by omega
    subst hi0; subst hj1
    exact KeyOrd.kle_of_klt hlt
  refine wpS_bind (wpS_lift (wpAny_rule ⟨rfl,?_⟩))
  refine wpS_bind (wpS_mono (wpS_forRange (I:=fun x c st3=>∃ neq,c=(none,x,neq)/\Base st' st3 lo (lo+nrem)/\NSeg κ (arrOf st3) lo (lo+x)/\neq+1<=x/\(∀ i,lo+x-(neq+1)<=i->i<lo+x->KK κ (arrOf st3) i=KK κ (arrOf st3) (lo+x-1)))
   (Q:=fun c st3=>∃ m neq,c=(none,m,neq)/\Base st' st3 lo (lo+nrem)/\1<=m/\m<=nrem/\NSeg κ (arrOf st3) lo (lo+m)/\neq+1<=m/\(∀ i,lo+m-(neq+1)<=i->i<lo+m->KK κ (arrOf st3) i=KK κ (arrOf st3) (lo+m-1)))
   ?_ ?_ ⟨0,rfl,hB2,hN2,by omega,fun i g1 g2=>by congr 1; omega⟩) ?_)
  ·rintro x c st3 hax hxn ⟨neq,rfl,hB3,hN3,hq,he⟩
   dsimp only
   have hz3:=hB3.size
   have ka3:Keys κ (arrOf st3):=ka.perm hB3.perm
   have hk3:kindOf st3=kd:=hB3.kind.trans hk
   have hsz:lo+x<=(arrOf st3).size:=by omega
   refine wpS_bind (wpS_ltAtG hL hk3 ka3 (by omega) (by omega) ?_)
   cases hless:κ.blt (KK κ (arrOf st3) (lo+x)) (KK κ (arrOf st3) (lo+x-1))
   case true=>
    simp only[if_true]
    have step1:∀ xs:Array Keyed,(∀ k,KK κ xs k=KK κ (arrOf st3) k)->NSeg κ xs lo (lo+(x+1)):=by
     intro xs hkk i j hi hij hj
     rw[hkk,hkk]
     by_cases hjx:j<lo+x
     ·exact hN3 i j hi hij hjx
     ·have hj':j=lo+x:=by omega
      subst hj'
      by_cases hi':i=lo+x
      ·subst hi'; exact KeyOrd.kle_refl _
      ·exact KeyOrd.kle_trans (KeyOrd.kle_of_klt hless) (hN3 i (lo+x-1) hi (by omega) (by omega))
    by_cases hneq:neq>0
    ·rw[if_pos hneq]
     refine wpS_bind (wpS_reverse (wpS_pure ⟨0,rfl,hB3.trans (Base.mirror hsz) (by omega) (by omega),step1 _ (KK_mirror_equal hsz he),by omega,fun i g1 g2=>by congr 1; omega⟩))
    ·rw[if_neg hneq]
     exact wpS_pure ⟨0,rfl,hB3,step1 _ (fun _=>rfl),by omega,fun i g1 g2=>by congr 1; omega⟩
   case false=>
    simp only[Bool.false_eq_true,if_false]
    refine wpS_bind (wpS_ltAtG hL hk3 ka3 (by omega) (by omega) ?_)
    cases hlarger:κ.blt (KK κ (arrOf st3) (lo+x-1)) (KK κ (arrOf st3) (lo+x))
    case true=>
     simp only[if_true]
     exact wpS_pure ⟨x,neq,rfl,hB3,by omega,by omega,hN3,hq,he⟩
    case false=>
     simp only[Bool.false_eq_true,if_false]
     have heqx:KK κ (arrOf st3) (lo+x)=KK κ (arrOf st3) (lo+x-1):=KeyOrd.kle_antisymm hlarger hless
     refine wpS_pure ⟨neq+1,rfl,hB3,fun i j hi hij hj=>?_,by omega,fun i g1 g2=>?_⟩
     ·by_cases hjx:j<lo+x
      ·exact hN3 i j hi hij hjx
      ·have hj':j=lo+x:=by omega
       subst hj'
       by_cases hi':i=lo+x
       ·subst hi'; exact KeyOrd.kle_refl _
       ·rw[heqx]; exact hN3 i (lo+x-1) hi (by omega) (by omega)
     ·rw[show lo+(x+1)-1=lo+x by omega]
      by_cases hix:i=lo+x
      ·subst hix; rfl
      ·rw[heqx]; exact he i (by omega) (by omega)
  ·rintro c st3 ⟨neq,rfl,hB3,hN3,hq,he⟩
   rw[show max (n+1) nrem=nrem by omega] at hN3 hq he ⊢
   exact⟨nrem,neq,rfl,hB3,h1,Nat.le_refl _,hN3,hq,he⟩
  rintro c st3 ⟨m,neq,rfl,hB3,hm1,hm2,hN3,hq,he⟩
  dsimp only
  have hz3:=hB3.size
  have hsz:lo+m<=(arrOf st3).size:=by omega
  have tail:∀ st4:SortSt,Base st' st4 lo (lo+nrem)->NSeg κ (arrOf st4) lo (lo+m)->Base st' (setArr st4 (PyProof.Rows.mirror (arrOf st4) lo (lo+m) ((lo+m-lo)/2))) lo (lo+nrem)/\Seg κ (arrOf (setArr st4 (PyProof.Rows.mirror (arrOf st4) lo (lo+m) ((lo+m-lo)/2)))) lo (lo+m):=fun st4 hB4 hN4=>by
   have hz4:=hB4.size
   have hsz4:lo+m<=(arrOf st4).size:=by omega
   refine⟨hB4.trans (Base.mirror hsz4) (Nat.le_refl _) (by omega),fun i j hi hij hj=>?_⟩
   show κ.kle (KK κ (PyProof.Rows.mirror (arrOf st4) lo (lo+m) ((lo+m-lo)/2)) i) (KK κ (PyProof.Rows.mirror (arrOf st4) lo (lo+m) ((lo+m-lo)/2)) j)
   rw[KK_mirror hsz4,KK_mirror hsz4,if_pos (by omega),if_pos (by omega)]
   exact hN4 _ _ (by omega) (by omega) (by omega)
  by_cases hneq:neq>0
  ·rw[if_pos hneq]
   refine wpS_bind (wpS_reverse ?_)
   obtain⟨hB5,hS5⟩:=tail _ (hB3.trans (Base.mirror (i:=lo+m-(neq+1)) hsz) (by omega) (by omega)) (fun i j hi hij hj=>by
    show κ.kle (KK κ (PyProof.Rows.mirror (arrOf st3) _ _ _) j) (KK κ (PyProof.Rows.mirror (arrOf st3) _ _ _) i)
    rw[KK_mirror_equal hsz he,KK_mirror_equal hsz he]
    exact hN3 i j hi hij hj)
   refine wpS_bind (wpS_reverse ?_)
   revert hB5 hS5
   generalize setArr _ (PyProof.Rows.mirror _ lo (lo+m) ((lo+m-lo)/2))=st5
   intro hB5 hS5
   have hz5:=hB5.size
   have ka5:Keys κ (arrOf st5):=ka.perm hB5.perm
   have hk5:kindOf st5=kd:=hB5.kind.trans hk
   refine wpS_bind (wpS_mono (wpS_forRange (I:=fun x c st6=>st6=st5/\c=(none,x)/\Seg κ (arrOf st5) lo (lo+x))
    (Q:=fun c st6=>st6=st5/\∃ n,c=(none,n)/\1<=n/\n<=nrem/\Seg κ (arrOf st5) lo (lo+n)) ?_ ?_ ⟨rfl,rfl,hS5⟩) ?_)
   ·rintro x c st6 hax hxn ⟨rfl,rfl,hs'⟩
    dsimp only
    refine wpS_bind (wpS_ltAtG hL hk5 ka5 (by omega) (by omega) ?_)
    cases hless:κ.blt (KK κ (arrOf st6) (lo+x)) (KK κ (arrOf st6) (lo+x-1))
    case true=>
     simp only[if_true]
     exact wpS_pure ⟨rfl,x,rfl,by omega,by omega,hs'⟩
    case false=>
     simp only[Bool.false_eq_true,if_false]
     exact wpS_pure ⟨rfl,rfl,more _ x (by omega) hs' hless⟩
   ·rintro c st6 ⟨rfl,rfl,hs'⟩
    rw[show max m nrem=nrem by omega] at hs' ⊢
    exact⟨rfl,nrem,rfl,h1,Nat.le_refl _,hs'⟩
   ·rintro c st6 ⟨rfl,n6,rfl,g1,g2,hs'⟩
    exact wpS_pure (h n6 _ hB5 g1 g2 hs')
  ·rw[if_neg hneq]
   obtain⟨hB5,hS5⟩:=tail _ hB3 hN3
   refine wpS_bind (wpS_reverse ?_)
   revert hB5 hS5
   generalize setArr _ (PyProof.Rows.mirror _ lo (lo+m) ((lo+m-lo)/2))=st5
   intro hB5 hS5
   have hz5:=hB5.size
   have ka5:Keys κ (arrOf st5):=ka.perm hB5.perm
   have hk5:kindOf st5=kd:=hB5.kind.trans hk
   refine wpS_bind (wpS_mono (wpS_forRange (I:=fun x c st6=>st6=st5/\c=(none,x)/\Seg κ (arrOf st5) lo (lo+x))
    (Q:=fun c st6=>st6=st5/\∃ n,c=(none,n)/\1<=n/\n<=nrem/\Seg κ (arrOf st5) lo (lo+n)) ?_ ?_ ⟨rfl,rfl,hS5⟩) ?_)
   ·rintro x c st6 hax hxn ⟨rfl,rfl,hs'⟩
    dsimp only
    refine wpS_bind (wpS_ltAtG hL hk5 ka5 (by omega) (by omega) ?_)
    cases hless:κ.blt (KK κ (arrOf st6) (lo+x)) (KK κ (arrOf st6) (lo+x-1))
    case true=>
     simp only[if_true]
     exact wpS_pure ⟨rfl,x,rfl,by omega,by omega,hs'⟩
    case false=>
     simp only[Bool.false_eq_true,if_false]
     exact wpS_pure ⟨rfl,rfl,more _ x (by omega) hs' hless⟩
   ·rintro c st6 ⟨rfl,rfl,hs'⟩
    rw[show max m nrem=nrem by omega] at hs' ⊢
    exact⟨rfl,nrem,rfl,h1,Nat.le_refl _,hs'⟩
   ·rintro c st6 ⟨rfl,n6,rfl,g1,g2,hs'⟩
    exact wpS_pure (h n6 _ hB5 g1 g2 hs')
end
end Tim
namespace Tim
open PySem PyProof.Rows
def wr (s:Nat) (l:List (Keyed×Nat)) (a:Array Keyed):Array Keyed:=l.foldl (fun a x=>a.setIfInBounds (s+x.2) x.1) a
theorem wr_get (s:Nat):∀ (M:List Keyed) (o:Nat) (a:Array Keyed),s+o+M.length<=a.size->∀ k:Nat,(wr s (M.zipIdx o) a)[k]?=if s+o<=k/\k<s+o+M.length then M[k-(s+o)]? else a[k]?
 | [],o,a,_,k=>by
  rw[if_neg (by rw[List.length_nil]; omega)]; rfl
 | x::r,o,a,h,k=>by
  rw[List.length_cons] at h
  show (wr s (r.zipIdx (o+1)) (a.setIfInBounds (s+o) x))[k]?=_
  rw[wr_get s r (o+1) _ (by simp; omega) k,List.length_cons]
  by_cases h1:k=s+o
  ·subst h1
   rw[if_neg (by omega),if_pos (by omega),Array.getElem?_setIfInBounds]
   simp; omega
  ·by_cases h2:s+o<=k/\k<s+o+(r.length+1)
   ·rw[if_pos (by omega),if_pos h2]
    obtain⟨q,hq⟩ : ∃ q,k-(s+o)=q+1:=⟨k-(s+o)-1,by omega⟩
    rw[hq,List.getElem?_cons_succ,show k-(s+(o+1))=q by omega]
   ·rw[if_neg (by omega),if_neg h2,Array.getElem?_setIfInBounds,if_neg (fun z=>h1 z.symm)]
section
variable {κ:KeyKind}
theorem srt_of_seg {a:Array Keyed} {lo hi:Nat} (h:Seg κ a lo hi) (hz:hi<=a.size):Srt κ (a.extract lo hi).toList:=by
 refine List.pairwise_iff_getElem.mpr fun i j hi' hj hij=>?_
 have hl:(a.extract lo hi).toList.length=hi-lo:=by rw[Array.length_toList,Array.size_extract]; omega
 have g:∀ (q:Nat) (hq:q<(a.extract lo hi).toList.length),a[lo+q]?=some (a.extract lo hi).toList[q]:=fun q hq=>by
  rw[Array.getElem_toList,Array.getElem_extract,Array.getElem?_eq_getElem (by omega)]
 show κ.kle _ _
 rw[<-KK_get (g i hi'),← KK_get (g j hj)]
 exact h _ _ (by omega) (by omega) (by omega)
theorem keys_ext {a:Array Keyed} (k:Keys κ a) {lo hi:Nat} (hz:hi<=a.size):Keys κ (a.extract lo hi):=fun i p e=>by
 rw[Array.getElem?_extract] at e
 split at e
 ·exact k _ _ e
 ·cases e
theorem mem_ext {a:Array Keyed} {lo hi:Nat} (hz:hi<=a.size) {x:Keyed} (h:x∈(a.extract lo hi).toList):∃ q,lo<=q/\q<hi/\a[q]?=some x:=by
 obtain⟨j,hj,e⟩:=List.mem_iff_getElem.mp h
 rw[Array.length_toList,Array.size_extract] at hj
 refine⟨lo+j,by omega,by omega,?_⟩
 rw[Array.getElem_toList,Array.getElem_extract] at e
 rw[Array.getElem?_eq_getElem (by omega),e]
theorem Seg.congr {a b:Array Keyed} {lo hi:Nat} (h:Seg κ a lo hi) (e:∀ i:Nat,lo<=i->i<hi->b[i]?=a[i]?):Seg κ b lo hi:=fun i j h1 h2 h3=>by
 rw[KK_congr (e i h1 (by omega)),KK_congr (e j (by omega) h3)]
 exact h i j h1 h2 h3
end
section
variable {prog:Program} {w:World} {A:Around} {E:Value->Shared->Prop} {s:Shared} {κ:KeyKind} {kd:SortKind}
theorem wpS_set {σ:Type} {st st':σ} {Q:PUnit->σ->Prop} {M:Model} (h:Q ⟨⟩ st'):wpS M A E s (set st':StateT σ Sem PUnit) Q st:=by
 unfold wpS; rw[StateT.run_set]; exact wpAny_pure ⟨rfl,h⟩
theorem wpS_mergeAtG (hL:LtOk prog w A E s κ kd) {st:SortSt} {i sa na pw sb nb pw2:Nat} {Q:Bool->SortSt->Prop} (hk:kindOf st=kd) (ka:Keys κ (arrOf st)) (hf:failedOf st=none)
  (p1:(pendingOf st)[i]?=some (sa,na,pw)) (p2:(pendingOf st)[i+1]?=some (sb,nb,pw2)) (e:sb=sa+na) (hna:0<na) (hnb:0<nb) (hn:sb+nb<=(arrOf st).size) (s1:Seg κ (arrOf st) sa sb) (s2:Seg κ (arrOf st) sb (sb+nb))
  (h:∀ st',(arrOf st').Perm (arrOf st)->(∀ j:Nat,(j<sa\/sb+nb<=j)->(arrOf st')[j]?=(arrOf st)[j]?)->kindOf st'=kindOf st->failedOf st'=none->pendingOf st'=((pendingOf st).setIfInBounds i (sa,na+nb,pw)).eraseIdxIfInBounds (i+1) ->
   Seg κ (arrOf st') sa (sb+nb)->Q true st'):wpS (model prog w) A E s (mergeAt' i) Q st:=by
 show wpS _ _ _ _ (bind _ _) _ _
 refine wpS_bind (wpS_get ?_)
 simp only[p1,p2]
 refine wpS_bind (wpS_set ?_)
 have lt1:sb<(arrOf st).size:=by omega
 have e1:(arrOf st)[sb]?=some (arrOf st)[sb]:=Array.getElem?_eq_getElem lt1
 refine wpS_bind (wpS_elem lt1 ?_)
 refine wpS_bind (wpS_gallop (arr:=arrOf st) hL hk (ka _ _ e1) ka (by omega) (by omega) (by rw[<-e]; exact s1) fun k hk1 pk nk=>?_)
 dsimp only
 rw[<-KK_get e1] at pk nk
 have lowA:∀ q,sa<=q->q<sa+k->κ.kle (KK κ (arrOf st) q) (KK κ (arrOf st) sb):=fun q h1 h2=>by
  have:=pk (q-sa) (by omega)
  rw[show sa+(q-sa)=q by omega] at this
  simpa [byd,KeyOrd.kle] using this
 have highA:∀ q,sa+k<=q->q<sb->κ.klt (KK κ (arrOf st) sb) (KK κ (arrOf st) q):=fun q h1 h2=>by
  have:=nk (q-sa) (by omega) (by omega)
  rw[show sa+(q-sa)=q by omega] at this
  simpa [byd,KeyOrd.klt] using this
 by_cases z1:na-k=0
 ·rw[if_pos (beq_iff_eq.mpr z1)]
  refine wpS_pure (h _ (.refl _) (fun _ _=>rfl) rfl hf rfl fun i j h1 h2 h3=>?_)
  show κ.kle (KK κ (arrOf st) i) (KK κ (arrOf st) j)
  by_cases hj:j<sb
  ·exact s1 i j h1 h2 hj
  ·by_cases hi:sb<=i
   ·exact s2 i j hi h2 h3
   ·exact KeyOrd.kle_trans (lowA i h1 (by omega)) (s2 sb j (Nat.le_refl _) (by omega) h3)
 rw[if_neg (fun z=>z1 (beq_iff_eq.mp z))]
 have lt2:sa+k+(na-k)-1<(arrOf st).size:=by omega
 have ix:sa+k+(na-k)-1=sb-1:=by omega
 have e2:(arrOf st)[sa+k+(na-k)-1]?=some (arrOf st)[sa+k+(na-k)-1]:=Array.getElem?_eq_getElem lt2
 refine wpS_bind (wpS_elem lt2 ?_)
 refine wpS_bind (wpS_gallop (arr:=arrOf st) hL hk (ka _ _ e2) ka (by omega) (by omega) s2 fun m hm1 pm nm=>?_)
 dsimp only
 rw[<-KK_get e2,ix] at pm nm
 have lowB:∀ q,sb<=q->q<sb+m->κ.klt (KK κ (arrOf st) q) (KK κ (arrOf st) (sb-1)):=fun q h1 h2=>by
  have:=pm (q-sb) (by omega)
  rw[show sb+(q-sb)=q by omega] at this
  simpa [byd,KeyOrd.klt] using this
 have highB:∀ q,sb+m<=q->q<sb+nb->κ.kle (KK κ (arrOf st) (sb-1)) (KK κ (arrOf st) q):=fun q h1 h2=>by
  have:=nm (q-sb) (by omega) (by omega)
  rw[show sb+(q-sb)=q by omega] at this
  simpa [byd,KeyOrd.kle] using this
 by_cases z2:m=0
 ·rw[if_pos (beq_iff_eq.mpr z2)]
  refine wpS_pure (h _ (.refl _) (fun _ _=>rfl) rfl hf rfl fun i j h1 h2 h3=>?_)
  show κ.kle (KK κ (arrOf st) i) (KK κ (arrOf st) j)
  by_cases hj:j<sb
  ·exact s1 i j h1 h2 hj
  ·by_cases hi:sb<=i
   ·exact s2 i j hi h2 h3
   ·exact KeyOrd.kle_trans (s1 i (sb-1) h1 (by omega) (by omega)) (highB j (by omega) h3)
 rw[if_neg (fun z=>z2 (beq_iff_eq.mp z))]
 have hxs:((arrOf st).extract (sa+k) sb).size=sb-(sa+k):=by rw[Array.size_extract]; omega
 have hys:((arrOf st).extract sb (sb+m)).size=m:=by rw[Array.size_extract]; omega
 have hX:Srt κ ((arrOf st).extract (sa+k) sb).toList:=srt_of_seg (fun i j h1 h2 h3=>s1 i j (by omega) h2 h3) (by omega)
 have hY:Srt κ ((arrOf st).extract sb (sb+m)).toList:=srt_of_seg (fun i j h1 h2 h3=>s2 i j h1 h2 (by omega)) (by omega)
 have kX:Keys κ ((arrOf st).extract (sa+k) sb):=keys_ext ka (by omega)
 have kY:Keys κ ((arrOf st).extract sb (sb+m)):=keys_ext ka (by omega)
 have b0:(arrOf st)[sb]?=some ((arrOf st).extract sb (sb+m))[0]:=by
  rw[Array.getElem_extract,Array.getElem?_eq_getElem (by omega)]; rfl
 have al:(arrOf st)[sb-1]?=some ((arrOf st).extract (sa+k) sb)[((arrOf st).extract (sa+k) sb).size-1]:=by
  rw[Array.getElem_extract]
  have:sa+k+(((arrOf st).extract (sa+k) sb).size-1)=sb-1:=by omega
  simp only[this]
  rw[Array.getElem?_eq_getElem (by omega)]
 have h1':∀ y∈((arrOf st).extract (sa+k) sb).toList,le κ ((arrOf st).extract sb (sb+m))[0] y:=fun y hy=>by
  obtain⟨q,q1,q2,ey⟩:=mem_ext (by omega) hy
  have:=highA q q1 q2
  rw[KK_get b0,KK_get ey] at this
  exact KeyOrd.kle_of_klt this
 have h2':∀ x∈((arrOf st).extract sb (sb+m)).toList,le κ x ((arrOf st).extract (sa+k) sb)[((arrOf st).extract (sa+k) sb).size-1]:=fun x hx=>by
  obtain⟨q,q1,q2,ex⟩:=mem_ext (by omega) hx
  have:=lowB q q1 q2
  rw[KK_get al,KK_get ex] at this
  exact KeyOrd.kle_of_klt this
 have fin:∀ (r:Array Keyed) (st2:SortSt),Res κ ((arrOf st).extract (sa+k) sb).toList ((arrOf st).extract sb (sb+m)).toList r->arrOf st2=arrOf st ->
   (wr (sa+k) r.toList.zipIdx (arrOf st2)).Perm (arrOf st)/\(∀ j:Nat,(j<sa\/sb+nb<=j)->(wr (sa+k) r.toList.zipIdx (arrOf st2))[j]?=(arrOf st)[j]?)/\Seg κ (wr (sa+k) r.toList.zipIdx (arrOf st2)) sa (sb+nb):=fun r st2 hr ea=>by
  rw[ea]
  have hrl:r.toList.length=sb+m-(sa+k):=by
   rw[hr.1.length_eq,List.length_append,Array.length_toList,Array.length_toList,hxs,hys]; omega
  have get:∀ j:Nat,(wr (sa+k) r.toList.zipIdx (arrOf st))[j]?=if sa+k<=j/\j<sb+m then r.toList[j-(sa+k)]? else (arrOf st)[j]?:=fun j=>by
   have:=wr_get (sa+k) r.toList 0 (arrOf st) (by omega) j
   rw[this,Nat.add_zero,hrl,show sa+k+(sb+m-(sa+k))=sb+m by omega]
  have old:∀ j,sa+k<=j->j<sb+m->∃ q,sa+k<=q/\q<sb+m/\KK κ (wr (sa+k) r.toList.zipIdx (arrOf st)) j=KK κ (arrOf st) q:=fun j g1 g2=>by
   have hlt:j-(sa+k)<r.toList.length:=by omega
   have ej:(wr (sa+k) r.toList.zipIdx (arrOf st))[j]?=some r.toList[j-(sa+k)]:=by rw[get,if_pos ⟨g1,g2⟩,List.getElem?_eq_getElem hlt]
   have hm:r.toList[j-(sa+k)]∈((arrOf st).extract (sa+k) sb).toList++((arrOf st).extract sb (sb+m)).toList:=hr.1.mem_iff.mp (List.getElem_mem hlt)
   rcases List.mem_append.mp hm with hm | hm
   ·obtain⟨q,q1,q2,eq⟩:=mem_ext (by omega) hm
    exact⟨q,q1,by omega,by rw[KK_get ej,KK_get eq]⟩
   ·obtain⟨q,q1,q2,eq⟩:=mem_ext (by omega) hm
    exact⟨q,by omega,q2,by rw[KK_get ej,KK_get eq]⟩
  have same:∀ j,(j<sa+k\/sb+m<=j)->KK κ (wr (sa+k) r.toList.zipIdx (arrOf st)) j=KK κ (arrOf st) j:=fun j hj=>KK_congr (by rw[get,if_neg (by omega)])
  refine⟨?_,fun j hj=>by rw[get,if_neg (by omega)],fun i j g1 g2 g3=>?_⟩
  ·have eL:(wr (sa+k) r.toList.zipIdx (arrOf st)).toList=(arrOf st).toList.take (sa+k)++r.toList++(arrOf st).toList.drop (sb+m):=by
    refine List.ext_getElem? fun j=>?_
    rw[Array.getElem?_toList,get]
    have hl1:((arrOf st).toList.take (sa+k)).length=sa+k:=by rw[List.length_take,Array.length_toList]; omega
    by_cases c1:j<sa+k
    ·rw[if_neg (by omega),List.append_assoc,List.getElem?_append_left (by omega),List.getElem?_take_of_lt c1,Array.getElem?_toList]
    ·by_cases c2:j<sb+m
     ·rw[if_pos ⟨by omega,c2⟩,List.getElem?_append_left (by rw[List.length_append]; omega),List.getElem?_append_right (by omega),hl1]
     ·rw[if_neg (by omega),List.getElem?_append_right (by rw[List.length_append]; omega),List.length_append,hl1,hrl,List.getElem?_drop,Array.getElem?_toList]
      congr 1; omega
   have eO:(arrOf st).toList=(arrOf st).toList.take (sa+k)++(((arrOf st).extract (sa+k) sb).toList++((arrOf st).extract sb (sb+m)).toList)++(arrOf st).toList.drop (sb+m):=by
    rw[ext_toList,ext_toList]
    have a1:(arrOf st).toList.drop (sa+k)=((arrOf st).toList.drop (sa+k)).take (sb-(sa+k))++(arrOf st).toList.drop sb:=by
     conv=>lhs; rw[<-List.take_append_drop (sb-(sa+k)) ((arrOf st).toList.drop (sa+k))]
     rw[List.drop_drop]; congr 2; omega
    have a2:(arrOf st).toList.drop sb=((arrOf st).toList.drop sb).take (sb+m-sb)++(arrOf st).toList.drop (sb+m):=by
     conv=>lhs; rw[<-List.take_append_drop (sb+m-sb) ((arrOf st).toList.drop sb)]
     rw[List.drop_drop]; congr 2; omega
    conv=>lhs; rw[<-List.take_append_drop (sa+k) (arrOf st).toList,a1,a2]
    simp only[List.append_assoc]
   refine Array.perm_iff_toList_perm.mpr ?_
   rw[eL]
   conv=>rhs; rw[eO]
   exact List.Perm.append_right _ (List.Perm.append_left _ hr.1)
  ·by_cases ci:i<sa+k
   ·rw[same i (.inl ci)]
    by_cases cj:j<sa+k
    ·rw[same j (.inl cj)]; exact s1 i j g1 g2 (by omega)
    ·by_cases cj2:j<sb+m
     ·obtain⟨q,q1,q2,eq⟩:=old j (by omega) cj2
      rw[eq]
      by_cases cq:q<sb
      ·exact s1 i q g1 (by omega) cq
      ·exact KeyOrd.kle_trans (lowA i g1 ci) (s2 sb q (Nat.le_refl _) (by omega) (by omega))
     ·rw[same j (.inr (by omega))]
      exact KeyOrd.kle_trans (lowA i g1 ci) (s2 sb j (Nat.le_refl _) (by omega) g3)
   ·by_cases ci2:i<sb+m
    ·by_cases cj2:j<sb+m
     ·have hi':i-(sa+k)<r.toList.length:=by omega
      have hj':j-(sa+k)<r.toList.length:=by omega
      have ei:(wr (sa+k) r.toList.zipIdx (arrOf st))[i]?=some r.toList[i-(sa+k)]:=by rw[get,if_pos ⟨by omega,ci2⟩,List.getElem?_eq_getElem hi']
      have ej:(wr (sa+k) r.toList.zipIdx (arrOf st))[j]?=some r.toList[j-(sa+k)]:=by rw[get,if_pos ⟨by omega,cj2⟩,List.getElem?_eq_getElem hj']
      rw[KK_get ei,KK_get ej]
      exact srt_get hr.2 (i:=i-(sa+k)) (j:=j-(sa+k)) (by omega) (List.getElem?_eq_getElem hi') (List.getElem?_eq_getElem hj')
     ·obtain⟨q,q1,q2,eq⟩:=old i (by omega) ci2
      rw[eq,same j (.inr (by omega))]
      by_cases cq:q<sb
      ·exact KeyOrd.kle_trans (s1 q (sb-1) (by omega) (by omega) (by omega)) (highB j (by omega) g3)
      ·exact s2 q j (by omega) (by omega) g3
    ·rw[same i (.inr (by omega)),same j (.inr (by omega))]
     exact s2 i j (by omega) g2 g3
 by_cases c:na-k<=m
 ·rw[if_pos c]
  refine wpS_bind (wpS_mergeLo (a:=(arrOf st).extract (sa+k) sb) (b:=(arrOf st).extract sb (sb+m)) hL hk kX kY hX hY (by omega) (by omega) h1' h2' fun r st2 hr ss=>?_)
  refine wpS_bind (wpS_modify (wpS_bind (wpS_get ?_)))
  obtain⟨f1,f2,f3⟩:=fin r st2 hr ss.arr
  have ef:failedOf st2=none:=ss.failed.trans hf
  have eb:(failedOf st2).isNone=true:=by rw[ef]; rfl
  refine wpS_pure ?_
  show Q (failedOf st2).isNone _
  rw[eb]
  exact h _ f1 f2 ss.kind ef ss.pend f3
 ·rw[if_neg c]
  refine wpS_bind (wpS_mergeHi (a:=(arrOf st).extract (sa+k) sb) (b:=(arrOf st).extract sb (sb+m)) hL hk kX kY hX hY (by omega) (by omega) h1' h2' fun r st2 hr ss=>?_)
  refine wpS_bind (wpS_modify (wpS_bind (wpS_get ?_)))
  obtain⟨f1,f2,f3⟩:=fin r st2 hr ss.arr
  have ef:failedOf st2=none:=ss.failed.trans hf
  have eb:(failedOf st2).isNone=true:=by rw[ef]; rfl
  refine wpS_pure ?_
  show Q (failedOf st2).isNone _
  rw[eb]
  exact h _ f1 f2 ss.kind ef ss.pend f3
end
end Tim
namespace Tim
open PySem PyProof.Rows
abbrev Run:=Nat×Nat×Nat
def Chain:List Run->Nat->Nat->Prop
 | [],lo,hi=>lo=hi
 | (s,n,_)::r,lo,hi=>s=lo/\0<n/\Chain r (lo+n) hi
theorem Chain.le:∀ {l:List Run} {lo hi:Nat},Chain l lo hi->lo+l.length<=hi
 | [],_,_,h=>Nat.le_of_eq h
 | (s,n,_)::r,lo,hi,h=>by
  have:=Chain.le h.2.2
  have:=h.2.1
  rw[List.length_cons]; omega
theorem Chain.mem:∀ {l:List Run} {lo hi:Nat} {x:Run},Chain l lo hi->x∈l->lo<=x.1/\x.1+x.2.1<=hi/\0<x.2.1
 | (s,n,p)::r,lo,hi,x,h,hx=>by
  have h2:=Chain.le h.2.2
  rcases List.mem_cons.mp hx with rfl | hx
  ·exact⟨Nat.le_of_eq h.1.symm,by have:=h.1; dsimp only; omega,h.2.1⟩
  ·obtain⟨a,b,c⟩:=Chain.mem h.2.2 hx
   exact⟨by omega,b,c⟩
theorem Chain.app:∀ {l1 l2:List Run} {lo hi:Nat},Chain (l1++l2) lo hi->∃ m,Chain l1 lo m/\Chain l2 m hi
 | [],_,lo,_,h=>⟨lo,rfl,h⟩
 | (s,n,_)::r,l2,lo,hi,h=>by
  obtain⟨m,a,b⟩:=Chain.app h.2.2
  exact⟨m,⟨h.1,h.2.1,a⟩,b⟩
theorem Chain.cat:∀ {l1 l2:List Run} {lo m hi:Nat},Chain l1 lo m->Chain l2 m hi->Chain (l1++l2) lo hi
 | [],_,lo,m,hi,h,g=>by
  have e:lo=m:=h
  subst e; exact g
 | (s,n,_)::r,l2,lo,m,hi,h,g=>⟨h.1,h.2.1,Chain.cat h.2.2 g⟩
theorem split_two {l:List Run} {i:Nat} {x y:Run} (h1:l[i]?=some x) (h2:l[i+1]?=some y):∃ l1 l2,l=l1++x::y::l2/\l1.length=i:=by
 obtain⟨g1,e1⟩:=List.getElem?_eq_some_iff.mp h1
 obtain⟨g2,e2⟩:=List.getElem?_eq_some_iff.mp h2
 refine⟨l.take i,l.drop (i+2),?_,by rw[List.length_take]; omega⟩
 conv=>lhs; rw[<-List.take_append_drop i l,List.drop_eq_getElem_cons g1,List.drop_eq_getElem_cons g2,e1,e2]
theorem Chain.modify {f:Run->Run} (hf:∀ x,(f x).1=x.1/\(f x).2.1=x.2.1):∀ {l:List Run} {i lo hi:Nat},Chain l lo hi->Chain (l.modify i f) lo hi
 | [],i,_,_,h=>by
  cases i <;> simpa using h
 | (s,n,p)::r,0,lo,hi,h=>by
  obtain⟨a,b⟩:=hf (s,n,p)
  rw[List.modify_zero_cons]
  show Chain (((f (s,n,p)).1,(f (s,n,p)).2.1,(f (s,n,p)).2.2)::r) lo hi
  rw[a,b]; exact h
 | (s,n,p)::r,i+1,lo,hi,h=>by
  rw[List.modify_succ_cons]
  exact⟨h.1,h.2.1,Chain.modify hf h.2.2⟩
theorem mem_modify {f:Run->Run} (hf:∀ x,(f x).1=x.1/\(f x).2.1=x.2.1):∀ {l:List Run} {i:Nat} {x:Run},x∈l.modify i f->∃ y∈l,x.1=y.1/\x.2.1=y.2.1
 | [],i,x,h=>by cases i <;> simp at h
 | z::r,0,x,h=>by
  rw[List.modify_zero_cons] at h
  rcases List.mem_cons.mp h with rfl | h
  ·exact⟨z,List.mem_cons_self,hf z⟩
  ·exact⟨x,List.mem_cons_of_mem _ h,rfl,rfl⟩
 | z::r,i+1,x,h=>by
  rw[List.modify_succ_cons] at h
  rcases List.mem_cons.mp h with rfl | h
  ·exact⟨_,List.mem_cons_self,rfl,rfl⟩
  ·obtain⟨y,a,b⟩:=mem_modify hf h
   exact⟨y,List.mem_cons_of_mem _ a,b⟩
structure Runs (κ:KeyKind) (st₀ st:SortSt) (hi:Nat):Prop where
 perm:(arrOf st).Perm (arrOf st₀)
 kind:kindOf st=kindOf st₀
 failed:failedOf st=none
 chain:Chain (pendingOf st).toList 0 hi
 seg:∀ x∈(pendingOf st).toList,Seg κ (arrOf st) x.1 (x.1+x.2.1)
 le:hi<=(arrOf st₀).size
section
variable {prog:Program} {w:World} {A:Around} {E:Value->Shared->Prop} {s:Shared} {κ:KeyKind} {kd:SortKind}
theorem Runs.size {st₀ st:SortSt} {hi:Nat} (h:Runs κ st₀ st hi):(arrOf st).size=(arrOf st₀).size:=h.perm.size_eq
theorem wpS_mergeR (hL:LtOk prog w A E s κ kd) {st₀ st:SortSt} {hi i:Nat} {Q:Bool->SortSt->Prop} (hk:kindOf st₀=kd) (ka:Keys κ (arrOf st₀)) (R:Runs κ st₀ st hi) (hi2:i+1<(pendingOf st).size)
  (h:∀ st',Runs κ st₀ st' hi->(pendingOf st').size+1=(pendingOf st).size->(∀ j:Nat,hi<=j->(arrOf st')[j]?=(arrOf st)[j]?)->Q true st'):wpS (model prog w) A E s (mergeAt' i) Q st:=by
 have e1:(pendingOf st)[i]?=some (pendingOf st)[i]:=Array.getElem?_eq_getElem (by omega)
 have e2:(pendingOf st)[i+1]?=some (pendingOf st)[i+1]:=Array.getElem?_eq_getElem hi2
 obtain⟨⟨sa,na,pw⟩,e1⟩ : ∃ x:Run,(pendingOf st)[i]?=some x:=⟨_,e1⟩
 obtain⟨⟨sb,nb,pw2⟩,e2⟩ : ∃ x:Run,(pendingOf st)[i+1]?=some x:=⟨_,e2⟩
 obtain⟨l1,l2,el,hl1⟩:=split_two (l:=(pendingOf st).toList) (by rw[Array.getElem?_toList]; exact e1) (by rw[Array.getElem?_toList]; exact e2)
 have hc:=R.chain
 rw[el] at hc
 obtain⟨m,c1,c2⟩:=hc.app
 obtain⟨q1,q2,q3,q4,q5⟩:=c2
 subst q1
 have hle:=q5.le
 have hs:=R.size
 have hR:=R.le
 have ms1:(sa,na,pw)∈(pendingOf st).toList:=by rw[el]; simp
 have ms2:(sb,nb,pw2)∈(pendingOf st).toList:=by rw[el]; simp
 have sg1:=R.seg _ ms1
 have sg2:=R.seg _ ms2
 dsimp only at sg1 sg2
 refine wpS_mergeAtG hL (R.kind.trans hk) (ka.perm R.perm) R.failed e1 e2 q3 q2 q4 (by omega) (by rw[q3]; exact sg1) sg2 fun st' g1 g2 g3 g4 g5 g6=>?_
 have ep:(pendingOf st').toList=l1++(sa,na+nb,pw)::l2:=by
  rw[g5,Array.toList_eraseIdxIfInBounds,Array.toList_setIfInBounds,el,List.set_append_right _ _ (by omega),show i-l1.length=0 by omega,List.set_cons_zero,List.eraseIdx_append_of_length_le (by omega),show i+1-l1.length=1 by omega]
  rfl
 refine h st' ⟨g1.trans R.perm,g3.trans R.kind,g4,?_,fun x hx=>?_,R.le⟩ ?_ fun j hj=>g2 j (.inr (by omega))
 ·rw[ep]
  refine c1.cat ⟨rfl,by omega,?_⟩
  rw[<-Nat.add_assoc]
  exact q5
 ·rw[ep] at hx
  rcases List.mem_append.mp hx with hx | hx
  ·have hb:=c1.mem hx
   refine (R.seg x (by rw[el]; exact List.mem_append_left _ hx)).congr fun j j1 j2=>g2 j (.inl (by omega))
  ·rcases List.mem_cons.mp hx with rfl | hx
   ·dsimp only
    rw[<-Nat.add_assoc,← q3]; exact g6
   ·have hb:=q5.mem hx
    refine (R.seg x (by rw[el]; simp[hx])).congr fun j j1 j2=>g2 j (.inr (by omega))
 ·have z1:(pendingOf st').size=l1.length+(l2.length+1):=by rw[<-Array.length_toList,ep,List.length_append,List.length_cons]
  have z2:(pendingOf st).size=l1.length+(l2.length+2):=by rw[<-Array.length_toList,el,List.length_append,List.length_cons,List.length_cons]
  omega
theorem minRun_pos:∀ (f n r:Nat),1<=n->1<=minRun' f n r
 | 0,n,r,h=>by show 1<=n+r; omega
 | f+1,n,r,h=>by
  rw[minRun'_succ]
  split
  ·omega
  ·exact minRun_pos f (n/2) _ (by omega)
theorem wpS_sortRunsG (hL:LtOk prog w A E s κ kd) {st:SortSt} {Q:Unit->SortSt->Prop} (hk:kindOf st=kd) (ka:Keys κ (arrOf st)) (hf:failedOf st=none) (hp:pendingOf st = #[]) (h2:1<=(arrOf st).size)
  (h:∀ st',(arrOf st').Perm (arrOf st)->failedOf st'=none->SortedToK κ (arrOf st') (arrOf st).size->Q () st'):wpS (model prog w) A E s sortRuns' Q st:=by
 rw[sortRuns'_eq]
 refine wpS_bind (wpS_get ?_)
 dsimp only
 have R0:Runs κ st st 0:=⟨.refl _,rfl,hf,by rw[hp]; exact rfl,fun x hx=>by rw[hp] at hx; simp at hx,Nat.zero_le _⟩
 refine wpS_bind (wpS_mono (wpS_forRange
  (I:=fun x c st'=>∃ lo,c=(none,lo)/\Runs κ st st' lo/\x<=lo)
  (Q:=fun c st'=>∃ lo,c=(none,lo)/\Runs κ st st' lo/\(arrOf st).size<=lo) ?step ?fin ⟨0,rfl,R0,Nat.le_refl _⟩) ?post)
 case fin=>
  rintro c st' ⟨lo,rfl,R,hx⟩
  exact⟨lo,rfl,R,by omega⟩
 case step=>
  rintro x c st1 _ hx ⟨lo,rfl,R,hxl⟩
  dsimp only
  have hz1:=R.size
  by_cases hge:lo≥(arrOf st).size
  ·rw[if_pos hge]
   exact wpS_pure ⟨lo,rfl,R,hge⟩
  rw[if_neg hge]
  have ka1:Keys κ (arrOf st1):=ka.perm R.perm
  refine wpS_bind (wpS_countRunG hL (R.kind.trans hk) ka1 (by omega) (by omega) fun m st2 hB2 hm1 hm2 hs2=>?_)
  dsimp only
  have R2:Runs κ st st2 lo:=⟨hB2.perm.trans R.perm,hB2.kind.trans R.kind,hB2.failed.trans R.failed,by rw[hB2.pend]; exact R.chain,fun x hx=>by
   rw[hB2.pend] at hx
   have hb:=R.chain.mem hx
   exact (R.seg x hx).congr fun j j1 j2=>hB2.out j (.inl (by omega)),R.le⟩
  have both:∀ (st3:SortSt) (n:Nat),Runs κ st st3 lo->1<=n->lo+n<=(arrOf st).size->Seg κ (arrOf st3) lo (lo+n)->True:=fun _ _ _ _ _ _=>trivial
  by_cases hlt:m<minRun' (arrOf st).size (arrOf st).size 0
  ·rw[if_pos hlt]
   refine wpS_bind (wpS_lift (wpAny_rule ⟨rfl,?_⟩))
   have hmp:=minRun_pos (arrOf st).size (arrOf st).size 0 h2
   have hz2:=R2.size
   generalize minRun' (arrOf st).size (arrOf st).size 0=mr at hlt hmp ⊢
   refine wpS_bind (wpS_binarySortG (n:=min ((arrOf st).size-lo) mr) hL (R2.kind.trans hk) (ka.perm R2.perm) (by omega) (by omega) hs2 fun st3 hB3 hs3=>?_)
   simp only[Bool.not_true,Bool.false_eq_true,if_false]
   have R3:Runs κ st st3 lo:=⟨hB3.perm.trans R2.perm,hB3.kind.trans R2.kind,hB3.failed.trans R2.failed,by rw[hB3.pend]; exact R2.chain,fun x hx=>by
    rw[hB3.pend] at hx
    have hb:=R2.chain.mem hx
    exact (R2.seg x hx).congr fun j j1 j2=>hB3.out j (.inl (by omega)),R2.le⟩
   have hn1:1<=min ((arrOf st).size-lo) mr:=by omega
   have hn2:lo+min ((arrOf st).size-lo) mr<=(arrOf st).size:=by omega
   generalize min ((arrOf st).size-lo) mr=n at hs3 hn1 hn2 ⊢
   clear hs2 hB2 hlt
   refine wpS_bind (wpS_get ?_)
   have push:∀ st4:SortSt,Runs κ st st4 lo->Seg κ (arrOf st4) lo (lo+n)->Runs κ st (setPending st4 ((pendingOf st4).push (lo,n,0))) (lo+n):=fun st4 R4 hs4=>
    ⟨R4.perm,R4.kind,R4.failed,by
     show Chain ((pendingOf st4).push (lo,n,0)).toList 0 (lo+n)
     rw[Array.toList_push]
     exact R4.chain.cat ⟨rfl,hn1,rfl⟩,fun x hx=>by
     have hx':x∈((pendingOf st4).push (lo,n,0)).toList:=hx
     rw[Array.toList_push] at hx'
     rcases List.mem_append.mp hx' with hx' | hx'
     ·exact R4.seg x hx'
     ·rw[List.mem_singleton.mp hx']; exact hs4,hn2⟩
   cases hb:(pendingOf st3).back? with
   | none=>
    dsimp only
    exact wpS_bind (wpS_modify (wpS_pure ⟨_,rfl,push st3 R3 hs3,by omega⟩))
   | some last=>
    obtain⟨s1,n1,p1⟩:=last
    dsimp only
    generalize power' (arrOf st).size _ _ _=pw
    refine wpS_bind (wpS_mono (wpS_forRange (I:=fun x c st4=>c=(none,())/\Runs κ st st4 lo/\Seg κ (arrOf st4) lo (lo+n))
     (Q:=fun c st4=>c=(none,())/\Runs κ st st4 lo/\Seg κ (arrOf st4) lo (lo+n)) ?_ (fun _ _ z=>z) ⟨rfl,R3,hs3⟩) ?_)
    ·rintro y c st4 _ _ ⟨rfl,R4,hs4⟩
     refine wpS_bind (wpS_get ?_)
     by_cases g:(pendingOf st4).size>1
     ·rw[if_pos g]
      have eg:(pendingOf st4)[(pendingOf st4).size-2]?=some (pendingOf st4)[(pendingOf st4).size-2]:=Array.getElem?_eq_getElem (by omega)
      rw[eg]
      obtain⟨t1,t2,older⟩:=(pendingOf st4)[(pendingOf st4).size-2]
      dsimp only
      split
      ·exact wpS_pure ⟨rfl,R4,hs4⟩
      ·refine wpS_bind (wpS_mergeR hL hk ka R4 (by omega) fun st5 R5 e5 o5=>?_)
       simp only[Bool.not_true,Bool.false_eq_true,if_false]
       exact wpS_pure ⟨rfl,R5,hs4.congr fun j j1 j2=>o5 j j1⟩
     ·rw[if_neg g]
      exact wpS_pure ⟨rfl,R4,hs4⟩
    ·rintro c st4 ⟨rfl,R4,hs4⟩
     dsimp only
     refine wpS_bind (wpS_modify ?_)
     have R5:Runs κ st (setPending st4 ((pendingOf st4).modify ((pendingOf st4).size-1) fun x=>(x.1,x.2.1,pw))) lo:=
      ⟨R4.perm,R4.kind,R4.failed,by
       show Chain ((pendingOf st4).modify _ _).toList 0 lo
       rw[Array.toList_modify]
       exact Chain.modify (f:=fun x=>(x.1,x.2.1,pw)) (fun _=>⟨rfl,rfl⟩) R4.chain,fun x hx=>by
       have hx':x∈((pendingOf st4).modify ((pendingOf st4).size-1) fun x=>(x.1,x.2.1,pw)).toList:=hx
       rw[Array.toList_modify] at hx'
       obtain⟨y,y1,y2,y3⟩:=mem_modify (f:=fun x=>(x.1,x.2.1,pw)) (fun _=>⟨rfl,rfl⟩) hx'
       rw[y2,y3]
       exact R4.seg y y1,R4.le⟩
     exact wpS_bind (wpS_modify (wpS_pure ⟨_,rfl,push _ R5 hs4,by omega⟩))
  ·rw[if_neg hlt]
   have R3:=R2
   have hs3:=hs2
   have hn1:=hm1
   have hn2:lo+m<=(arrOf st).size:=by omega
   clear hs2 hm1 R2 hB2 hlt
   revert R3 hs3 hn1 hn2
   generalize st2=st3
   generalize m=n
   intro R3 hs3 hn1 hn2
   refine wpS_bind (wpS_get ?_)
   have push:∀ st4:SortSt,Runs κ st st4 lo->Seg κ (arrOf st4) lo (lo+n)->Runs κ st (setPending st4 ((pendingOf st4).push (lo,n,0))) (lo+n):=fun st4 R4 hs4=>
    ⟨R4.perm,R4.kind,R4.failed,by
     show Chain ((pendingOf st4).push (lo,n,0)).toList 0 (lo+n)
     rw[Array.toList_push]
     exact R4.chain.cat ⟨rfl,hn1,rfl⟩,fun x hx=>by
     have hx':x∈((pendingOf st4).push (lo,n,0)).toList:=hx
     rw[Array.toList_push] at hx'
     rcases List.mem_append.mp hx' with hx' | hx'
     ·exact R4.seg x hx'
     ·rw[List.mem_singleton.mp hx']; exact hs4,hn2⟩
   cases hb:(pendingOf st3).back? with
   | none=>
    dsimp only
    exact wpS_bind (wpS_modify (wpS_pure ⟨_,rfl,push st3 R3 hs3,by omega⟩))
   | some last=>
    obtain⟨s1,n1,p1⟩:=last
    dsimp only
    generalize power' (arrOf st).size _ _ _=pw
    refine wpS_bind (wpS_mono (wpS_forRange (I:=fun x c st4=>c=(none,())/\Runs κ st st4 lo/\Seg κ (arrOf st4) lo (lo+n))
     (Q:=fun c st4=>c=(none,())/\Runs κ st st4 lo/\Seg κ (arrOf st4) lo (lo+n)) ?_ (fun _ _ z=>z) ⟨rfl,R3,hs3⟩) ?_)
    ·rintro y c st4 _ _ ⟨rfl,R4,hs4⟩
     refine wpS_bind (wpS_get ?_)
     by_cases g:(pendingOf st4).size>1
     ·rw[if_pos g]
      have eg:(pendingOf st4)[(pendingOf st4).size-2]?=some (pendingOf st4)[(pendingOf st4).size-2]:=Array.getElem?_eq_getElem (by omega)
      rw[eg]
      obtain⟨t1,t2,older⟩:=(pendingOf st4)[(pendingOf st4).size-2]
      dsimp only
      split
      ·exact wpS_pure ⟨rfl,R4,hs4⟩
      ·refine wpS_bind (wpS_mergeR hL hk ka R4 (by omega) fun st5 R5 e5 o5=>?_)
       simp only[Bool.not_true,Bool.false_eq_true,if_false]
       exact wpS_pure ⟨rfl,R5,hs4.congr fun j j1 j2=>o5 j j1⟩
     ·rw[if_neg g]
      exact wpS_pure ⟨rfl,R4,hs4⟩
    ·rintro c st4 ⟨rfl,R4,hs4⟩
     dsimp only
     refine wpS_bind (wpS_modify ?_)
     have R5:Runs κ st (setPending st4 ((pendingOf st4).modify ((pendingOf st4).size-1) fun x=>(x.1,x.2.1,pw))) lo:=
      ⟨R4.perm,R4.kind,R4.failed,by
       show Chain ((pendingOf st4).modify _ _).toList 0 lo
       rw[Array.toList_modify]
       exact Chain.modify (f:=fun x=>(x.1,x.2.1,pw)) (fun _=>⟨rfl,rfl⟩) R4.chain,fun x hx=>by
       have hx':x∈((pendingOf st4).modify ((pendingOf st4).size-1) fun x=>(x.1,x.2.1,pw)).toList:=hx
       rw[Array.toList_modify] at hx'
       obtain⟨y,y1,y2,y3⟩:=mem_modify (f:=fun x=>(x.1,x.2.1,pw)) (fun _=>⟨rfl,rfl⟩) hx'
       rw[y2,y3]
       exact R4.seg y y1,R4.le⟩
     exact wpS_bind (wpS_modify (wpS_pure ⟨_,rfl,push _ R5 hs4,by omega⟩))
 case post=>
  rintro c st1 ⟨lo,rfl,R,hx⟩
  have hlo:lo=(arrOf st).size:=Nat.le_antisymm R.le hx
  subst hlo
  dsimp only
  have hz:=R.chain.le
  rw[Array.length_toList] at hz
  refine wpS_bind (wpS_mono (wpS_forRange (I:=fun x c st2=>c=(none,())/\Runs κ st st2 (arrOf st).size/\(pendingOf st2).size+x<=(arrOf st).size+1)
   (Q:=fun c st2=>c=(none,())/\Runs κ st st2 (arrOf st).size/\(pendingOf st2).size<=1) ?_ ?_ ⟨rfl,R,by omega⟩) ?_)
  ·rintro x c st2 _ hx2 ⟨rfl,R2,hp2⟩
   refine wpS_bind (wpS_get ?_)
   by_cases hp1:(pendingOf st2).size<=1
   ·rw[if_pos hp1]
    exact wpS_pure ⟨rfl,R2,hp1⟩
   rw[if_neg hp1]
   refine wpS_bind (wpS_mergeR hL hk ka R2 (by (repeat' split) <;> omega) fun st3 R3 e3 _=>?_)
   simp only[Bool.not_true,Bool.false_eq_true,if_false]
   exact wpS_pure ⟨rfl,R3,by omega⟩
  ·rintro c st2 ⟨rfl,R2,hp2⟩
   exact⟨rfl,R2,by omega⟩
  ·rintro c st2 ⟨rfl,R2,hp2⟩
   refine wpS_pure (h st2 R2.perm R2.failed ?_)
   have hch:=R2.chain
   have hseg:=R2.seg
   rw[<-Array.length_toList] at hp2
   match hl:(pendingOf st2).toList,hp2 with
   | [],_=>
    rw[hl] at hch
    have:0=(arrOf st).size:=hch
    omega
   | [(s,n,p)],_=>
    rw[hl] at hch hseg
    obtain⟨a,b,c⟩:=hch
    have c':0+n=(arrOf st).size:=c
    have:=hseg (s,n,p) (by simp)
    subst a
    dsimp only at this
    rw[c'] at this
    exact fun i j hij hj=>this i j (Nat.zero_le _) hij hj
end
end Tim
namespace Tim
open PySem PyProof.Rows
abbrev Keeps (h h':Heap):Prop:=∀ b o,h.get? b=some o->h'.get? b=some o
theorem sortedHeap_at {h:Heap} {a:Addr} {vs:List Value} {n:Nat} {out:Array Value} (ho:h.get? a=some (seqObj "list" vs.toArray n)):∃ m,(sortedHeap h a vs out).get? a=some (seqObj "list" out m):=by
 have ha:a<h.objs.size:=Heap.lt_size ho
 obtain⟨e1,ho1⟩ : ∃ e1,(h.update a (Obj.mapSeq fun _=>#[])).get? a=some (seqObj "list" #[] e1):=⟨_,get?_update_seq ho (fun _=>#[])⟩
 have ho6:(((h.update a (Obj.mapSeq fun _=>#[])).push (seqObj "tuple" vs.toArray 0)).push (seqObj "list" #[] 0)).get? a=some (seqObj "list" #[] e1):=by
  rw[Heap.get?_push_ne _ _ _ (by rw[size_push',Heap.size_update]; exact Nat.ne_of_lt (Nat.lt_succ_of_lt ha)),Heap.get?_push_ne _ _ _ (by rw[Heap.size_update]; exact Nat.ne_of_lt ha)]
  exact ho1
 exact⟨_,get?_update_seq ho6 fun _=>out⟩
theorem sortedHeap_ne {h:Heap} {a b:Addr} {vs:List Value} {out:Array Value} {o:Obj} (hb:b≠a) (e:h.get? b=some o):(sortedHeap h a vs out).get? b=some o:=by
 unfold sortedHeap
 rw[Heap.get?_update_ne _ _ _ _ hb]
 refine Heap.get?_push_of_some _ (Heap.get?_push_of_some _ ?_)
 rw[Heap.get?_update_ne _ _ _ _ hb]
 exact e
section
variable {prog:Program} {w:World} {A:Around} {E:Value->Shared->Prop} {s:Shared} {κ:KeyKind} {kd:SortKind}
theorem list_sort_G {a:Addr} {vs:List Value} {n:Nat} {P:Fin->Shared->Prop} (ho:s.heap.get? a=some (seqObj "list" vs.toArray n)) (hz:vs.length<=sizeLine) (h0:Keys κ (pairsOf vs))
  (hst:∀ h6:Heap,(∀ b o,b≠a->s.heap.get? b=some o->h6.get? b=some o)->2<=vs.length->LtOk prog w A E { s with heap:=h6 } κ kd /\
   ∀ Q:SortKind->Shared->Prop,Q kd { s with heap:=h6 }->wpAny (model prog w) A (keyKind' vs.toArray) Q E { s with heap:=h6 })
  (h:∀ st':SortSt,(arrOf st').Perm (pairsOf vs)->SortedToK κ (arrOf st') (pairsOf vs).size->P (.done (.ret .none)) { s with heap:=sortedHeap s.heap a vs ((arrOf st').map (·.2)) }) :
  wpAny (model prog w) A (Builtin.«list.sort» ⟨[.ref a],[]⟩) P E s:=by
 rw[list_sort_plain]
 have ha:a<s.heap.objs.size:=Heap.lt_size ho
 have hsz:vs.toArray.size=vs.length:=by simp
 refine wpAny_bind (listItems_at ho rfl ?_)
 refine wpAny_bind (listUpdate_at ho rfl ?_ (by rw[hsz]; exact hz) (Nat.zero_le _))
 obtain⟨e1,ho1⟩ : ∃ e1,(s.heap.update a (Obj.mapSeq fun _=>#[])).get? a=some (seqObj "list" #[] e1):=⟨_,get?_update_seq ho (fun _=>#[])⟩
 refine wpAny_bind (seqEpoch_at ho1 rfl ?_)
 refine wpAny_bind (wpAny_newTuple ?_)
 refine wpAny_bind (wpAny_newList ?_)
 refine wpAny_holding ?_
 have ho6:(((s.heap.update a (Obj.mapSeq fun _=>#[])).push (seqObj "tuple" vs.toArray 0)).push (seqObj "list" #[] 0)).get? a=some (seqObj "list" #[] e1):=by
  rw[Heap.get?_push_ne _ _ _ (by rw[size_push',Heap.size_update]; exact Nat.ne_of_lt (Nat.lt_succ_of_lt ha)),Heap.get?_push_ne _ _ _ (by rw[Heap.size_update]; exact Nat.ne_of_lt ha)]
  exact ho1
 have hk6:∀ b o,b≠a->s.heap.get? b=some o->(((s.heap.update a (Obj.mapSeq fun _=>#[])).push (seqObj "tuple" vs.toArray 0)).push (seqObj "list" #[] 0)).get? b=some o:=fun b o hb e=>by
  refine Heap.get?_push_of_some _ (Heap.get?_push_of_some _ ?_)
  rw[Heap.get?_update_ne _ _ _ _ hb]
  exact e
 show wpAny (model prog w) A _ P E { s with heap:=((s.heap.update a (Obj.mapSeq fun _=>#[])).push (seqObj "tuple" vs.toArray 0)).push (seqObj "list" #[] 0) }
 dsimp only
 have fin:=h
 by_cases h2:vs.toArray.size<2
 ·rw[if_pos h2,if_pos h2]
  refine wpAny_bind (wpAny_pure ?_)
  rw[StateT.run_pure]
  refine wpAny_bind (wpAny_pure ?_)
  dsimp only
  refine wpAny_bind (seqEpoch_at ho6 rfl ?_)
  refine wpAny_bind (listUpdate_at ho6 rfl ?_ (Nat.zero_le _) (hsz2:=by rw[Array.size_map]; show (pairsOf vs).size<=_; rw[pairsOf_size,sizeLine_eq]; omega))
  simp only[bne_self_eq_false,Bool.false_eq_true,if_false]
  refine wpAny_pure (fin (SortSt.mk' general' (vs.toArray.zip vs.toArray) #[] 7 none) (Array.Perm.refl _) ?_)
  intro i j hij hj
  have:i=j:=by rw[pairsOf_size] at hj; omega
  subst this; exact KeyOrd.kle_refl _
 ·rw[if_neg h2,if_neg h2]
  obtain⟨hL,hkk⟩:=hst _ hk6 (by omega)
  refine wpAny_bind (hkk _ ?_)
  refine wpAny_bind (wpAny_mono (wpS_sortRunsG (κ:=κ) (kd:=kd) hL (st:=SortSt.mk' kd (pairsOf vs) #[] 7 none)
   (Q:=fun _ st'=>(arrOf st').Perm (pairsOf vs)/\failedOf st'=none/\SortedToK κ (arrOf st') (pairsOf vs).size)
   rfl h0 rfl rfl (by show 1<=(pairsOf vs).size; rw[pairsOf_size]; omega) fun st' a1 a2 a3=>⟨a1,a2,a3⟩) ?_ fun _ _ e=>e)
  rintro ⟨⟨⟩,st'⟩ s' ⟨rfl,hp,hf,hs⟩
  dsimp only
  refine wpAny_bind (seqEpoch_at ho6 rfl ?_)
  refine wpAny_bind (listUpdate_at ho6 rfl ?_ (Nat.zero_le _) (hsz2:=by refine Nat.le_trans (Nat.le_of_eq ((Array.size_map ..).trans (hp.size_eq.trans (pairsOf_size _)))) ?_; omega))
  rw[hf]
  simp only[bne_self_eq_false,Bool.false_eq_true,if_false]
  exact wpAny_pure (fin st' hp hs)
def ky (κ:KeyKind) (v:Value):κ.α:=(κ.keyOf v).getD κ.dflt
theorem zip_map (vs:List Value):vs.zip vs=vs.map fun v=>(v,v):=by
 induction vs with
 | nil=>rfl
 | cons x r ih=>rw[List.zip_cons_cons,ih]; rfl
theorem pairs_list (vs:List Value):(pairsOf vs).toList=vs.map fun v=>(v,v):=by
 show (vs.toArray.zip vs.toArray).toList=_
 rw[Array.toList_zip]
 exact zip_map vs
theorem keys_pairs {vs:List Value} (h:∀ v∈vs,∃ a,κ.keyOf v=some a):Keys κ (pairsOf vs):=fun i p e=>by
 have hm:p∈(pairsOf vs).toList:=Array.mem_toList_iff.mpr (Array.mem_of_getElem? e)
 rw[pairs_list] at hm
 obtain⟨v,hv,rfl⟩:=List.mem_map.mp hm
 exact h v hv
theorem out_of {vs:List Value} {arr:Array Keyed} (hp:arr.Perm (pairsOf vs)) (hs:SortedToK κ arr (pairsOf vs).size):(arr.map (·.2)).toList.Perm vs/\(arr.map (·.2)).toList.Pairwise fun x y=>κ.kle (ky κ x) (ky κ y):=by
 have hl:=Array.perm_iff_toList_perm.mp hp
 rw[pairs_list] at hl
 have same:∀ p∈arr.toList,p.1=p.2:=fun p hm=>by
  have:=hl.mem_iff.mp hm
  obtain⟨v,_,rfl⟩:=List.mem_map.mp this
  rfl
 rw[Array.toList_map]
 refine⟨?_,?_⟩
 ·have:=hl.map (·.2)
  rw[List.map_map] at this
  have e:(vs.map ((fun p:Keyed=>p.2) ∘ fun v=>(v,v)))=vs:=by
   have:((fun p:Keyed=>p.2) ∘ fun v:Value=>(v,v))=id:=rfl
   rw[this,List.map_id]
  rw[e] at this
  exact this
 ·refine List.pairwise_map.mpr (List.pairwise_iff_getElem.mpr fun i j hi hj hij=>?_)
  have hz:arr.size=(pairsOf vs).size:=hp.size_eq
  rw[Array.length_toList] at hi hj
  have g:=hs i j (Nat.le_of_lt hij) (by omega)
  have ei:arr[i]?=some arr.toList[i]:=by rw[Array.getElem_toList,Array.getElem?_eq_getElem hi]
  have ej:arr[j]?=some arr.toList[j]:=by rw[Array.getElem_toList,Array.getElem?_eq_getElem hj]
  rw[KK_get ei,KK_get ej] at g
  have si:=same _ (List.getElem_mem (l:=arr.toList) (n:=i) (by rw[Array.length_toList]; exact hi))
  have sj:=same _ (List.getElem_mem (l:=arr.toList) (n:=j) (by rw[Array.length_toList]; exact hj))
  unfold kk at g
  rw[si,sj] at g
  exact g
theorem sorted_G {v:Value} {Q:Value->Shared->Prop} {R:List Value->Prop}
  (hcol:∀ Q':List Value->Shared->Prop,(∀ vs h1 tk,Keeps s.heap h1->s.heap.objs.size<=h1.objs.size->R vs->Q' vs { s with heap:=h1,toks:=tk })->wpAny (model prog w) A.in1 (collect v) Q' E s)
  (hz:∀ vs,R vs->vs.length<=sizeLine) (h0:∀ vs,R vs->∀ v∈vs,∃ a,κ.keyOf v=some a)
  (hst:∀ vs h6 tk,R vs->Keeps s.heap h6->2<=vs.length->LtOk prog w A.in1.in1 E { s with heap:=h6,toks:=tk } κ kd /\
   ∀ Q:SortKind->Shared->Prop,Q kd { s with heap:=h6,toks:=tk }->wpAny (model prog w) A.in1.in1 (keyKind' vs.toArray) Q E { s with heap:=h6,toks:=tk })
  (h:∀ (vs out:List Value) (l:Addr) (h2:Heap) (tk m:Nat),R vs->out.Perm vs->out.Pairwise (fun x y=>κ.kle (ky κ x) (ky κ y))->Keeps s.heap h2->s.heap.objs.size<=l->h2.get? l=some (seqObj "list" out.toArray m)->Q (.ref l) { s with heap:=h2,toks:=tk }) :
  wpAny (model prog w) A (call (.builtin "sorted") [v]) Q E s:=by
 refine Calls.call_function_entry kind_sorted plain_sorted entry_sorted (args_sorted1 _) ?_
 unfold Builtin.«sorted»
 refine wpAny_bind (m:=checkCount "sorted" 1 1 _) (wpAny_pure ?_)
 refine wpAny_bind (hcol _ fun vs h1 tk hk hle hR=>?_)
 refine wpAny_bind (wpAny_newList (hsz:=hz vs hR) ?_)
 have hoL:(h1.push (seqObj "list" vs.toArray 0)).get? h1.objs.size=some (seqObj "list" vs.toArray 0):=Heap.get?_push_size _ rfl
 show wpAny _ _ _ _ _ { s with heap:=h1.push (seqObj "list" vs.toArray 0),toks:=tk }
 refine wpAny_bind (wpAny_holding (wpAny_call_entry slot_list_sort ⟨_,hoL,rfl⟩ entry_list_sort (list_sort_G (κ:=κ) (kd:=kd) hoL (hz vs hR) (keys_pairs (h0 vs hR)) ?_ fun st' a1 a2=>⟨_,rfl,?_⟩) (args_list_sort _)))
 ·intro h6 k6 h2
  refine hst vs h6 tk hR (fun b o e=>?_) h2
  have e1:=hk b o e
  exact k6 b o (Nat.ne_of_lt (Heap.lt_size e1)) (Heap.get?_push_of_some _ e1)
 ·obtain⟨p1,p2⟩:=out_of a1 a2
  obtain⟨m,em⟩:=sortedHeap_at (out:=(arrOf st').map (·.2)) hoL
  refine wpAny_pure ⟨_,rfl,h vs _ h1.objs.size _ tk m hR p1 p2 (fun b o e=>?_) hle (by rw[Array.toArray_toList]; exact em)⟩
  have e1:=hk b o e
  exact sortedHeap_ne (Nat.ne_of_lt (Heap.lt_size e1)) (Heap.get?_push_of_some _ e1)
end
end Tim
namespace Tim
open PySem PyProof.Rows
def lx:List Int->List Int->Bool
 | [],[]=>false
 | [],_::_=>true
 | _::_,[]=>false
 | x::xs,y::ys=>if x=y then lx xs ys else decide (x<y)
theorem lx_irrefl:∀ a,lx a a=false
 | []=>rfl
 | x::xs=>by rw[lx,if_pos rfl]; exact lx_irrefl xs
theorem lx_trans:∀ a b c,lx a b=true->lx b c=true->lx a c=true
 | [],[],_,h,_=>by cases h
 | [],_::_,[],_,h=>by cases h
 | [],_::_,_::_,_,_=>rfl
 | _::_,[],_,h,_=>by cases h
 | _::_,_::_,[],_,h=>by cases h
 | x::xs,y::ys,z::zs,h1,h2=>by
  rw[lx] at h1 h2 ⊢
  by_cases e1:x=y
  ·subst e1
   rw[if_pos rfl] at h1
   by_cases e2:x=z
   ·subst e2
    rw[if_pos rfl] at h2 ⊢
    exact lx_trans xs ys zs h1 h2
   ·rw[if_neg e2] at h2 ⊢; exact h2
  ·rw[if_neg e1] at h1
   have l1:=of_decide_eq_true h1
   by_cases e2:y=z
   ·subst e2
    rw[if_neg e1]; exact h1
   ·rw[if_neg e2] at h2
    have l2:=of_decide_eq_true h2
    rw[if_neg (by omega)]
    exact decide_eq_true (by omega)
theorem lx_neg:∀ a b c,lx a c=true->lx a b=true\/lx b c=true
 | [],[],_,h=>.inr h
 | [],_::_,_,_=>.inl rfl
 | _::_,_,[],h=>by cases h
 | _::_,[],_::_,_=>.inr rfl
 | x::xs,y::ys,z::zs,h=>by
  rw[lx] at h ⊢
  rw[lx]
  by_cases e1:x=y
  ·subst e1
   rw[if_pos rfl]
   by_cases e2:x=z
   ·subst e2
    rw[if_pos rfl] at h ⊢
    exact lx_neg xs ys zs h
   ·rw[if_neg e2] at h ⊢; exact .inr h
  ·rw[if_neg e1]
   by_cases e2:x=z
   ·subst e2
    rw[if_neg (fun z=>e1 z.symm)]
    by_cases l:x<y
    ·exact .inl (decide_eq_true l)
    ·exact .inr (decide_eq_true (by omega))
   ·rw[if_neg e2] at h
    have l:=of_decide_eq_true h
    by_cases l1:x<y
    ·exact .inl (decide_eq_true l1)
    ·right
     rw[if_neg (by omega)]
     exact decide_eq_true (by omega)
theorem lx_total:∀ a b,lx a b=false->lx b a=false->a=b
 | [],[],_,_=>rfl
 | [],_::_,h,_=>by cases h
 | _::_,[],_,h=>by cases h
 | x::xs,y::ys,h1,h2=>by
  rw[lx] at h1 h2
  by_cases e:x=y
  ·subst e
   rw[if_pos rfl] at h1 h2
   rw[lx_total xs ys h1 h2]
  ·rw[if_neg e] at h1
   rw[if_neg (fun z=>e z.symm)] at h2
   have:=of_decide_eq_false h1
   have:=of_decide_eq_false h2
   omega
def intsOf:List Value->Option (List Int)
 | []=>some []
 | .int n _::r=>(intsOf r).map (n::·)
 | _::_=>none
theorem intsOf_are:∀ {vs:List Value} {ns:List Int},IntsAre vs ns->intsOf vs=some ns
 | _,_,.nil=>rfl
 | _,_,.cons n t h=>by rw[intsOf,intsOf_are h]; rfl
theorem intsOf_some:∀ {vs:List Value} {ns:List Int},intsOf vs=some ns->IntsAre vs ns
 | [],_,h=>by cases h; exact .nil
 | v::r,ns,h=>by
  cases v with
  | int n t=>
   rw[intsOf] at h
   obtain⟨ms,hm,rfl⟩:=Option.map_eq_some_iff.mp h
   exact .cons n t (intsOf_some hm)
  | _=>cases h
def keyAt (h:Heap):Value->Option (List Int)
 | .ref a=>match h.get? a with
  | some o=>match o.data with
   | .seq xs _=>if o.cls == .type "tuple" then intsOf xs.toList else none
   | _=>none
  | none=>none
 | _=>none
theorem keyAt_some {h:Heap} {v:Value} {ns:List Int} (e:keyAt h v=some ns):∃ a o xs n,v=.ref a/\h.get? a=some o/\o.cls=.type "tuple" /\ o.data=.seq xs n/\IntsAre xs.toList ns:=by
 cases v with
 | ref a=>
  rw[keyAt] at e
  cases ho:h.get? a with
  | none=>rw[ho] at e; cases e
  | some o=>
   rw[ho] at e
   dsimp only at e
   cases hd:o.data with
   | seq xs n=>
    rw[hd] at e
    dsimp only at e
    split at e
    ·rename_i hc
     exact⟨a,o,xs,n,rfl,ho,by simpa using hc,hd,intsOf_some e⟩
    ·cases e
   | _=>rw[hd] at e; cases e
 | _=>cases e
theorem keyAt_of {h:Heap} {a:Addr} {o:Obj} {xs:Array Value} {n:Nat} {ns:List Int} (ho:h.get? a=some o) (hc:o.cls=.type "tuple") (hd:o.data=.seq xs n) (hi:IntsAre xs.toList ns):keyAt h (.ref a)=some ns:=by
 rw[keyAt,ho]
 dsimp only
 rw[hd]
 dsimp only
 rw[hc,if_pos (by rfl),intsOf_are hi]
def tupK (h:Heap):KeyKind where
 α:=List Int
 blt:=lx
 irrefl:=lx_irrefl
 trans:=lx_trans
 negTrans:=lx_neg
 total:=lx_total
 keyOf:=keyAt h
 dflt:=[]
def intK:KeyKind where
 α:=Int
 blt:=fun a b=>decide (a<b)
 irrefl:=fun a=>decide_eq_false (by omega)
 trans:=fun a b c h1 h2=>decide_eq_true (by have:=of_decide_eq_true h1; have:=of_decide_eq_true h2; omega)
 negTrans:=fun a b c h=>by
  have:=of_decide_eq_true h
  by_cases l:a<b
  ·exact .inl (decide_eq_true l)
  ·exact .inr (decide_eq_true (by omega))
 total:=fun a b h1 h2=>by have:=of_decide_eq_false h1; have:=of_decide_eq_false h2; omega
 keyOf:=fun v=>match v with
  | .int n _=>some n
  | _=>none
 dflt:=0
section
variable {prog:Program} {w:World} {A:Around} {E:Value->Shared->Prop} {s:Shared}
theorem lex_run {b fin:Bool}:∀ {us ws:List Value} {ns ms:List Int} {i:Nat} {Q:Bool->Shared->Prop},IntsAre us ns->IntsAre ws ms->(ns.length=ms.length->fin=false)->(ns.length<ms.length->fin=true)->(ms.length<ns.length->fin=false)->Q (lx ns ms) s->PySem.W.KatLex prog w A b fin Q (us.zip ws) i s
 | _,_,_,_,i,Q,.nil,.nil,h1,_,_,q=>by
  rw[lx] at q
  show Q fin s
  rw[h1 rfl]; exact q
 | _,_,_,_,i,Q,.nil,.cons m t _,_,h2,_,q=>by
  rw[lx] at q
  show Q fin s
  rw[h2 (by simp)]; exact q
 | _,_,_,_,i,Q,.cons n t _,.nil,_,_,h3,q=>by
  rw[lx] at q
  show Q fin s
  rw[h3 (by simp)]; exact q
 | _,_,_,_,i,Q,.cons (ns:=ns) n t hx,.cons (ns:=ms) m u hy,h1,h2,h3,q=>by
  rw[lx] at q
  refine PySem.W.kat_cons (wpAny_eqBool_int ?_)
  by_cases e:n=m
  ·subst e
   rw[if_pos rfl] at q
   rw[show (n == n)=true by simp]
   exact PySem.W.kat_yes (lex_run hx hy (fun z=>h1 (by simp[z])) (fun z=>h2 (by simp; omega)) (fun z=>h3 (by simp; omega)) q)
  ·rw[if_neg e] at q
   rw[show (n == m)=false by simpa using e]
   refine PySem.W.kat_no ?_
   cases hb:(b&&i == 0) with
   | true=>exact oneLt_int q
   | false=>exact PySem.W.kat_one _ _ (lt_int q)
theorem lt_tup {h:Heap} {b:Bool} (hk:Keeps h s.heap):LtOk prog w A E s (tupK h) (tuples' b):=by
 intro st x y Q hkd hx hy q
 obtain⟨ns,hx⟩:=hx
 obtain⟨ms,hy⟩:=hy
 obtain⟨a,o,xs,n,ex,ho,hc,hd,hi⟩:=keyAt_some hx
 obtain⟨a2,o2,ys,n2,ey,ho2,hc2,hd2,hi2⟩:=keyAt_some hy
 have kx:kk (tupK h) x=ns:=by unfold kk; rw[hx]; rfl
 have ky':kk (tupK h) y=ms:=by unfold kk; rw[hy]; rfl
 rw[kx,ky'] at q
 have q':Q (some (lx ns ms)) st:=q
 rw[lt'_eq]
 refine wpS_bind (wpS_get ?_)
 rw[hkd,ex,ey]
 refine wpS_bind (wpS_lift (wpAny_attempt (PySem.W.kat_lt (hk _ _ ho) hd (hk _ _ ho2) hd2 ?_)))
 have l1:=hi.length
 have l2:=hi2.length
 rw[Array.length_toList] at l1 l2
 refine lex_run hi hi2 (fun z=>decide_eq_false (by omega)) (fun z=>decide_eq_true (by omega)) (fun z=>decide_eq_false (by omega)) ?_
 exact⟨rfl,wpS_pure q'⟩
theorem lt_intG:LtOk prog w A E s intK oneType':=by
 intro st x y Q hkd hx hy q
 obtain⟨ns,hx⟩:=hx
 obtain⟨ms,hy⟩:=hy
 obtain⟨x1,x2⟩:=x
 obtain⟨y1,y2⟩:=y
 cases x1 with
 | int n t=>
  cases y1 with
  | int m u=>
   have q':Q (some (decide (n<m))) st:=q
   rw[lt'_eq]
   refine wpS_bind (wpS_get ?_)
   rw[hkd,keyLt'_oneType]
   refine wpS_bind (wpS_lift (wpAny_attempt (oneLt_int ⟨rfl,?_⟩)))
   exact wpS_pure q'
  | _=>cases hy
 | _=>cases hx
end
end Tim
namespace L3
open PySem PySem.Spec PyProof.Rows L2 Tim
def RawD (h:Heap) (d:Addr) (es:Array DictEntry) (ep:Nat):Prop:=∃ o,h.get? d=some o/\o.cls=.type "dict" /\ o.data=.dict es ep
theorem RawD.typeIs {s:Shared} {d:Addr} {es:Array DictEntry} {ep:Nat} (h:RawD s.heap d es ep):s.TypeIs (.ref d) "dict" := let ⟨o,h1,h2,_⟩:=h; ⟨o,h1,h2⟩
theorem RawD.at {h h':Heap} {d:Addr} {es:Array DictEntry} {ep:Nat} (x:RawD h d es ep) (k:∀ o,h.get? d=some o->h'.get? d=some o):RawD h' d es ep:=let ⟨o,h1,h2⟩:=x; ⟨o,k o h1,h2⟩
theorem RawD.lt {h:Heap} {d:Addr} {es:Array DictEntry} {ep:Nat} (x:RawD h d es ep):d<h.objs.size:=let ⟨_,h1,_⟩:=x; Heap.lt_size h1
section
variable {prog:Program} {w:World} {A:Around} {E:Value->Shared->Prop} {s:Shared} {d it:Addr} {es:Array DictEntry} {ep i:Nat}
theorem raw_iter {Q:Value->Shared->Prop} (lo:(d == sysModules)=false) (m:RawD s.heap d es ep)
  (q:Q (.ref s.heap.objs.size) { s with heap:=s.heap.push { cls:=.type "dict_keyiterator",data:=.fields #[.ref d,.int 0 0,.int es.size 0,.int ep 0] } }):wpAny (model prog w) A (pyIter (.ref d)) Q E s:=by
 obtain⟨o,h1,h2,h3⟩:=id m
 refine wpAny_pyIter_slot m.typeIs F.slot_dict_iter (wpAny_call_entry F.slot_dict_iter m.typeIs F.entry_dict_iter ?_ (F.args_dict_iter_1 _))
 show wpAny _ _ (bind _ _) _ _ s
 refine wpAny_bind (wpAny_bind (wpAny_notOrdered_dict m.typeIs (wpAny_pure ?_)))
 refine wpAny_bind (show wpAny _ _ (pure d) _ _ s from wpAny_pure ?_)
 show wpAny _ _ (bind (Builtin.Dict.showsAll d) _) _ _ s
 unfold Builtin.Dict.showsAll
 rw[if_neg (by rw[lo]; exact Bool.false_ne_true)]
 refine wpAny_bind (wpAny_pure ?_)
 refine (wpAny_bind (wpAny_dictEntries h1 h3 (wpAny_bind (wpAny_dictEpoch h1 h3 ?_))))
 refine wpAny_bind (wpAny_newObj_type (wpAny_pure ⟨_,rfl, "dict_keyiterator",_,⟨_,Heap.get?_push_size _ rfl,rfl⟩,F.slot_dict_keyiterator_next.lookup,?_⟩))
 simpa [rawInt] using q
theorem raw_next {e:DictEntry} {Q:Option Value->Shared->Prop} (hit:s.heap.IsKeyIter it d i es.size ep) (m:RawD s.heap d es ep) (hx:es[i]?=some e)
  (q:∀ h',h'.IsKeyIter it d (i+1) es.size ep->Heap.SameBut it s.heap h'->Q (some e.key) { s with heap:=h' }):wpAny (model prog w) A (pyNext (.ref it)) Q E s:=by
 obtain⟨o,ho,hc,hd⟩:=id hit
 obtain⟨od,m1,m2,m3⟩:=id m
 have own:Builtin.Dict_items.ownsTuple "dict_keyiterator" = false:=by decide
 unfold pyNext
 refine wpAny_bind (wpAny_attempt (wpAny_callSpecial?_slot (name:=Str.ofString "__next__") hit.typeIs F.slot_dict_keyiterator_next (wpAny_call_entry F.slot_dict_keyiterator_next hit.typeIs F.entry_dict_keyiterator_next ?_ (F.args_dict_keyiterator_next_1 _))))
 refine wpAny_bind (wpAny_pure (wpAny_bind (wpAny_bind ?_)))
 first | refine wpAny_bind (wpAny_typeNameOfWhole_keyiter hit.typeIs (wpAny_pure ?_)) | refine wpAny_bind (wpAny_typeNameOf_keyiter hit.typeIs (wpAny_pure ?_))
 refine wpAny_bind (wpAny_fieldsOf ho hd ?_)
 simp only[own,Bool.false_eq_true,if_false]
 show wpAny _ _ (if (Value.ref d == Value.none)=true then _ else _) _ _ s
 rw[if_neg (by exact Bool.false_ne_true)]
 refine wpAny_bind (wpAny_pure (wpAny_bind (wpAny_dictEntries m1 m3 ?_)))
 rw[if_neg (by simp)]
 refine wpAny_bind (wpAny_pure (wpAny_bind (wpAny_dictEpoch m1 m3 ?_)))
 rw[if_neg (by simp)]
 refine wpAny_pure ?_
 simp only[show ¬ ((i:Int)<0) from by omega,if_false,Int.toNat_natCast,hx]
 refine wpAny_bind ?_
 first | refine wpAny_bind (wpAny_typeNameOfWhole_keyiter hit.typeIs (wpAny_pure ?_)) | refine wpAny_bind (wpAny_typeNameOf_keyiter hit.typeIs (wpAny_pure ?_))
 refine wpAny_bind (wpAny_isOneOf_keyiter hit.typeIs ?_)
 show wpAny _ _ (setField (.ref it) 1 (rawInt ((i:Int)+1)) >>= _) _ _ s
 refine wpAny_bind (wpAny_setField ho hd (by simp) ?_)
 have hit':(s.heap.update it (Obj.mapFields (·.setIfInBounds 1 (rawInt ((i:Int)+1))))).IsKeyIter it d (i+1) es.size ep:=
  ⟨_,Heap.get?_update_self _ ho (Obj.isFreed_of_fields (Obj.data_mapFields hd _)),(Obj.cls_mapFields ..).trans hc,by rw[Obj.data_mapFields hd]; simp[rawInt]⟩
 refine wpAny_bind (wpAny_holding (wpAny_bind (wpAny_isOneOf_keyiter (s:={ s with heap:=_ }) hit'.typeIs ?_)))
 show wpAny _ _ (pure e.key) _ _ _
 exact wpAny_pure (wpAny_pure ⟨_,rfl,wpAny_pure (q _ hit' (Heap.SameBut.update ..))⟩)
theorem raw_end {Q:Option Value->Shared->Prop} (hh:A.handled=none) (hit:s.heap.IsKeyIter it d i es.size ep) (m:RawD s.heap d es ep) (hx:es.size<=i)
  (q:∀ h',Heap.ExtBut it s.heap h'->Q none { s with heap:=h' }):wpAny (model prog w) A (pyNext (.ref it)) Q E s:=by
 obtain⟨o,ho,hc,hd⟩:=id hit
 obtain⟨od,m1,m2,m3⟩:=id m
 have own:Builtin.Dict_items.ownsTuple "dict_keyiterator" = false:=by decide
 unfold pyNext
 refine wpAny_bind (wpAny_attempt (wpAny_callSpecial?_slot (name:=Str.ofString "__next__") hit.typeIs F.slot_dict_keyiterator_next (wpAny_call_entry F.slot_dict_keyiterator_next hit.typeIs F.entry_dict_keyiterator_next ?_ (F.args_dict_keyiterator_next_1 _))))
 refine wpAny_bind (wpAny_pure (wpAny_bind (wpAny_bind ?_)))
 first | refine wpAny_bind (wpAny_typeNameOfWhole_keyiter hit.typeIs (wpAny_pure ?_)) | refine wpAny_bind (wpAny_typeNameOf_keyiter hit.typeIs (wpAny_pure ?_))
 refine wpAny_bind (wpAny_fieldsOf ho hd ?_)
 simp only[own,Bool.false_eq_true,if_false]
 show wpAny _ _ (if (Value.ref d == Value.none)=true then _ else _) _ _ s
 rw[if_neg (by exact Bool.false_ne_true)]
 refine wpAny_bind (wpAny_pure (wpAny_bind (wpAny_dictEntries m1 m3 ?_)))
 rw[if_neg (by simp)]
 refine wpAny_bind (wpAny_pure (wpAny_bind (wpAny_dictEpoch m1 m3 ?_)))
 rw[if_neg (by simp)]
 refine wpAny_pure ?_
 simp only[show ¬ ((i:Int)<0) from by omega,if_false,Int.toNat_natCast,Array.getElem?_eq_none hx]
 refine wpAny_bind ?_
 first | refine wpAny_bind (wpAny_typeNameOfWhole_keyiter hit.typeIs (wpAny_pure ?_)) | refine wpAny_bind (wpAny_typeNameOf_keyiter hit.typeIs (wpAny_pure ?_))
 show wpAny _ _ (setField (.ref it) 0 .none >>= _) _ _ s
 refine wpAny_bind (wpAny_setField ho hd (by simp) ?_)
 show wpAny _ _ (newExc (.type "StopIteration") [] >>= _) _ _ _
 refine wpAny_bind ?_
 simp only[newExc,newTuple]
 refine wpAny_bind (wpAny_newObj_type ?_ (by size_fits))
 refine wpAny_bind (m:=firstArgMember _ _) (wpAny_of_eq (a:=Value.none) (by first | rfl | (simp only[firstArgMember]; rfl)) ?_)
 refine wpAny_newObj_type ?_ (by size_fits)
 simp only[raiseNew]
 refine wpAny_bind (wpAny_handled ?_)
 rw[show A.in1.handled=none from hh]
 refine wpAny_bind (wpAny_pure (wpAny_throw ?_))
 refine wpAny_bind (wpAny_isInstance (T := "StopIteration") (b:=true) ⟨_,Heap.get?_push_size _ rfl,rfl⟩ isSubtype_stop ?_)
 exact wpAny_pure (q _ (((Heap.SameBut.update ..).extBut.push _).push _))
theorem raw_walk (hh:A.handled=none) (I d:Addr) (hne:d≠I) (es:Array DictEntry) (ep:Nat) :
  Walks prog w A I [I,d] [I] es.size (fun i v=>∃ e,es[i]?=some e/\v=e.key) (fun i h=>h.IsKeyIter I d i es.size ep/\RawD h d es ep) where
 sub:=fun b hb=>by simp at hb; simp[hb]
 frame:=fun _ _ _ st hk=>⟨st.1.at fun o e=>hk I (by simp) o e,st.2.at fun o e=>hk d (by simp) o e⟩
 item:=fun i s Q E hi st hQ=>by
  have hx:es[i]?=some es[i]:=Array.getElem?_eq_getElem hi
  refine raw_next st.1 st.2 hx fun h' hit' hs'=>?_
  exact hQ _ h' s.toks ⟨_,hx,rfl⟩ ⟨hit',st.2.at fun o e=>(hs'.2 d hne).trans e⟩ fun b o hb e=>hs'.extBut b o (fun h=>hb (by simp[h])) e
 done:=fun s Q E st hQ=>raw_end hh st.1 st.2 (Nat.le_refl _) fun h' he'=>hQ h' s.toks fun b o hb e=>he' b o (fun h=>hb (by simp[h])) e
 self:=fun _ _ _ _ st hQ=>wpAny_pyIter_keyiter st.1 hQ
theorem raw_src (lo:(d == sysModules)=false):PySem.W.KdlSrc prog w "dict" d d es.size (fun i v=>∃ e,es[i]?=some e/\v=e.key) (fun h=>RawD h d es ep) where
 type:=fun _ m=>m.typeIs
 there:=fun _ m=>⟨m.lt,m.lt⟩
 keep:=fun _ _ m hk=>m.at fun o e=>hk d (.inl rfl) o e
 notList:=by decide
 notTuple:=by decide
 hint:=fun _ _ _ _ m q=>PySem.W.kdl_hint_dict m.typeIs q
 iter:=fun _ _ hh m=>⟨_,_,(fun _ _ q=>raw_iter lo m q),raw_walk hh _ d (Nat.ne_of_lt m.lt) es ep,⟨⟨_,Heap.get?_push_size _ rfl,rfl,rfl⟩,m.at fun _ e=>Heap.get?_push_of_some _ e⟩⟩
theorem collect_src {T:String} {r:Addr} {n:Nat} {P:Nat->Value->Prop} {OK:Heap->Prop} {Q:List Value->Shared->Prop} (K:PySem.W.KdlSrc prog w T r d n P OK) (hh:A.handled=none) (hok:OK s.heap) (hn:n<=sizeLine)
  (q:∀ h' tk acc,Keeps s.heap h'->s.heap.objs.size<=h'.objs.size->ItemsOf P acc n->Q acc.toList { s with heap:=h',toks:=tk }):wpAny (model prog w) A (collect (.ref r)) Q E s:=by
 have th:=K.there _ hok
 unfold collect
 refine wpAny_bind (wpAny_runValue (codeAny_builtin F.entry_proto_collect ?_))
 rw[Around.under_plainId F.plain_proto_collect _]
 show wpAny _ A.in1 (newList [] >>= fun l=>again (.builtin "list.__iadd__" ⟨[l,.ref r],[]⟩)) _ _ s
 refine wpAny_bind (wpAny_newObj_type (wpAny_pure ⟨plainId_quiet F.plain_list_iadd _,codeAny_builtin F.entry_list_iadd ?_⟩))
 rw[Around.under_plainId F.plain_list_iadd _]
 have ok1:OK (s.heap.push { cls:=.type "list",data:=.seq ([]:List Value).toArray }):=K.keep _ _ hok fun b _ o e=>Heap.get?_push_of_some _ e
 have hS:(s.heap.push { cls:=.type "list",data:=.seq ([]:List Value).toArray }).get? s.heap.objs.size=some { cls:=.type "list",data:=.seq #[] }:=Heap.get?_push_size _ rfl
 show wpAny _ A.in1 (Builtin.List.listExtendWith (.ref s.heap.objs.size) (.ref r) (.ref s.heap.objs.size)) _ _ _
 have fin:∀ (r:Result) (s':Shared),(∃ h' tk acc c,r=.ok (.ret (.ref s.heap.objs.size))/\s'={ s with heap:=h',toks:=tk }/\(∀ b o,b≠s.heap.objs.size->(s.heap.push { cls:=.type "list",data:=.seq ([]:List Value).toArray }).get? b=some o->h'.get? b=some o) /\
   h'.get? s.heap.objs.size=some { cls:=.type "list",dict:=none,data:=.seq acc c,slots:=#[] }/\ItemsOf P acc n)->∃ h' tk acc c,r=.ok (.ret (.ref s.heap.objs.size))/\s'={ s with heap:=h',toks:=tk }/\h'.get? s.heap.objs.size=some { cls:=.type "list",dict:=none,data:=.seq acc c,slots:=#[] }/\Q acc.toList s':=by
  rintro r s' ⟨h',tk,acc,c,rfl,rfl,hk,hS',hacc⟩
  exact⟨h',tk,acc,c,rfl,rfl,hS',q h' tk acc (fun b o e=>hk b o (Nat.ne_of_lt (Heap.lt_size e)) (Heap.get?_push_of_some _ e)) (Nat.le_of_lt (Heap.lt_size hS')) hacc⟩
 refine wpAny_mono (PySem.W.kdl_extend (s:={ s with heap:=s.heap.push { cls:=.type "list",data:=.seq ([]:List Value).toArray } })
  (R:=fun r s'=>∃ h' tk acc c,r=.ok (.ret (.ref s.heap.objs.size))/\s'={ s with heap:=h',toks:=tk }/\h'.get? s.heap.objs.size=some { cls:=.type "list",dict:=none,data:=.seq acc c,slots:=#[] }/\Q acc.toList s')
  K hh ok1 s.heap.objs.size (Nat.ne_of_gt th.1) (Nat.ne_of_gt th.2) _ _ hS (fun h' tk acc c hk hS' hacc=>fin _ _ ⟨h',tk,acc,c,rfl,rfl,hk,hS',hacc⟩) hn) (fun f s' hf=>?_) (fun e s' he=>?_)
 ·cases f with
  | done f=>
   obtain⟨h',tk,acc,c,e,rfl,hS',hq⟩:=hf
   cases e
   exact wpAny_bind (wpAny_load hS' (wpAny_pure hq))
  | again c'=>
   refine⟨hf.1,codeAny_mono hf.2 fun r s'' hr=>?_⟩
   obtain⟨h',tk,acc,c,rfl,rfl,hS',hq⟩:=hr
   exact wpAny_bind (wpAny_load hS' (wpAny_pure hq))
 ·obtain⟨h',tk,acc,c,e1,_⟩:=he
  cases e1
end
end L3
namespace L3
open PySem PySem.Spec PyProof.Rows L2 Tim
theorem perm_map_inv {α β:Type} (f:α->β):∀ {l m:List β},l.Perm m->∀ {ps:List α},m=ps.map f->∃ ps':List α,ps'.Perm ps/\l=ps'.map f:=by
 intro l m h
 induction h with
 | nil=>
  intro ps e
  cases ps with
  | nil=>exact⟨[],List.Perm.refl _,rfl⟩
  | cons a r=>cases e
 | cons x h ih=>
  intro ps e
  cases ps with
  | nil=>cases e
  | cons a r=>
   rw[List.map_cons] at e
   injection e with e1 e2
   obtain⟨ps',h1,h2⟩:=ih e2
   exact⟨a::ps',h1.cons a,by rw[List.map_cons,h2,e1]⟩
 | swap x y l=>
  intro ps e
  cases ps with
  | nil=>cases e
  | cons a r=>
   cases r with
   | nil=>cases e
   | cons b r=>
    rw[List.map_cons,List.map_cons] at e
    injection e with e1 e2
    injection e2 with e2 e3
    exact⟨b::a::r,.swap a b r,by rw[List.map_cons,List.map_cons,← e1,← e2,← e3]⟩
 | trans _ _ ih1 ih2=>
  intro ps e
  obtain⟨p2,h1,h2⟩:=ih2 e
  obtain⟨p1,h3,h4⟩:=ih1 h2
  exact⟨p1,h3.trans h1,h4⟩
abbrev TI':=Addr×List Int
abbrev lxLe (x y:List Int):Prop:=lx y x=false
section
variable {X:Cx} {pins:List (Addr×Obj)} {σ:L2.St} {H:Hp} {s:Shared}
theorem ints_rel {ns:List Int} {us:List Value} (h:Vals (ns.map V.int) us):IntsAre us ns:=intsAre_of h
theorem tup_key (I:Inv X pins σ H s) {q:TI'} (h:SqT X.K H q.1 (q.2.map V.int)):keyAt s.heap (.ref q.1)=some q.2:=by
 obtain⟨its,r,⟨o,ho,hc,n,hd⟩,_⟩:=I.tuple h
 exact keyAt_of ho hc hd (by simpa using ints_rel r)
theorem kat_of {h:Heap} {ps:List TI'} (hk:∀ q∈ps,keyAt h (.ref q.1)=some q.2/\q.2≠[]):∃ fs:List Value,PySem.W.KatTups h (ps.map fun q=>Value.ref q.1) fs/\fs.length=ps.length/\∀ v∈fs,∃ n t,v=Value.int n t:=by
 induction ps with
 | nil=>exact⟨[],.nil,rfl,fun v hv=>absurd hv (by simp)⟩
 | cons q r ih=>
  obtain⟨fs,h1,h2,h3⟩:=ih fun x hx=>hk x (List.mem_cons_of_mem _ hx)
  obtain⟨e,ne⟩:=hk q List.mem_cons_self
  obtain⟨a,o,xs,n,ea,ho,hc,hd,hi⟩:=keyAt_some e
  cases ea
  obtain⟨qa,qt⟩:=q
  dsimp only at *
  cases hx:xs.toList with
  | nil=>rw[hx] at hi; cases hi; exact absurd rfl ne
  | cons v vs=>
   rw[hx] at hi
   obtain⟨m,t,ev⟩ : ∃ m t,v=Value.int m t:=by cases hi with | cons m t _=>exact⟨m,t,rfl⟩
   refine⟨v::fs,.cons ho hc hd (by rw[<-Array.getElem?_toList,hx]; rfl) h1,by simp[h2],fun u hu=>?_⟩
   rcases List.mem_cons.mp hu with rfl | hu
   ·exact⟨m,t,ev⟩
   ·exact h3 u hu
theorem sorted_tups {A:Around} {E:Value->Shared->Prop} {v:Value} {ts:List (List Int)} {Q:VK} (I:Inv X pins σ H s)
  (hcol:∀ Q':List Value->Shared->Prop,(∀ (ps:List TI') h1 tk,Keeps s.heap h1->s.heap.objs.size<=h1.objs.size->ps.map (·.2)=ts->(∀ q∈ps,SqT X.K H q.1 (q.2.map V.int))->Q' (ps.map fun q=>Value.ref q.1) { s with heap:=h1,toks:=tk })->wpAny (model X.prog X.w) A.in1 (collect v) Q' E s)
  (hz:ts.length<=sizeLine) (hne:∀ t∈ts,t≠[])
  (q:∀ (l:Addr) (ps:List TI'),H l=none->(ps.map (·.2)).Perm ts->(ps.map (·.2)).Pairwise lxLe->(∀ q∈ps,SqT X.K H q.1 (q.2.map V.int))->Q (.ref l) (upd H l (.lst (ps.map fun q=>V.ref q.1)))) :
  wpAny (model X.prog X.w) A (call (.builtin "sorted") [v]) (EP X pins σ Q) E s:=by
 refine sorted_G (κ:=tupK s.heap) (kd:=tuples' true) (R:=fun vs=>∃ ps:List TI',vs=ps.map (fun q=>Value.ref q.1)/\ps.map (·.2)=ts/\∀ q∈ps,SqT X.K H q.1 (q.2.map V.int))
  (fun Q' hq=>hcol Q' fun ps h1 tk k z e1 e2=>hq _ h1 tk k z ⟨ps,rfl,e1,e2⟩) ?_ ?_ ?_ ?_
 ·rintro vs ⟨ps,rfl,e,_⟩
  have e':=congrArg List.length e
  rw[List.length_map] at e' ⊢
  omega
 ·rintro vs ⟨ps,rfl,_,e⟩ v hv
  obtain⟨q,hq,rfl⟩:=List.mem_map.mp hv
  exact⟨_,tup_key I (e q hq)⟩
 ·rintro vs h6 tk ⟨ps,rfl,e1,e2⟩ k h2
  refine⟨lt_tup k,fun Q' hq=>?_⟩
  obtain⟨fs,f1,f2,f3⟩:=kat_of (h:=h6) (ps:=ps) fun q hq=>by
   have e3:=tup_key I (e2 q hq)
   obtain⟨a,o,xs,n,ea,ho,hc,hd,hi⟩:=keyAt_some e3
   cases ea
   exact⟨keyAt_of (k _ _ ho) hc hd hi,hne _ (by rw[<-e1]; exact List.mem_map_of_mem hq)⟩
  refine PySem.W.kat_kind (T:=Value.type "int") f1 (by rw[f2]; rw[List.length_map] at h2; omega) (fun v hv=>?_) (by rfl) hq
  obtain⟨n,t,rfl⟩:=f3 v hv
  exact PySem.W.Looks.of_pure rfl
 ·rintro vs out l h2 tk m ⟨ps,rfl,e1,e2⟩ hp hs k hl ho
  obtain⟨ps',p1,rfl⟩:=perm_map_inv (fun q:TI'=>Value.ref q.1) hp rfl
  have m2:∀ q∈ps',SqT X.K H q.1 (q.2.map V.int):=fun q hq=>e2 q (p1.mem_iff.mp hq)
  have pw:(ps'.map (·.2)).Pairwise lxLe:=by
   refine List.pairwise_map.mpr ((List.pairwise_map.mp hs).imp_of_mem fun {x y} hx hy hxy=>?_)
   have kx:ky (tupK s.heap) (.ref x.1)=x.2:=by unfold ky; rw[show (tupK s.heap).keyOf (.ref x.1)=some x.2 from tup_key I (m2 x hx)]; rfl
   have ky':ky (tupK s.heap) (.ref y.1)=y.2:=by unfold ky; rw[show (tupK s.heap).keyOf (.ref y.1)=some y.2 from tup_key I (m2 y hy)]; rfl
   rw[kx,ky'] at hxy
   exact hxy
  have pp:(ps'.map (·.2)).Perm ts:=by rw[<-e1]; exact p1.map _
  refine⟨.ref l,_,I.laid (t':=tk) k hl (show ObjOk X.prog X.w _ h2 l (.lst (ps'.map fun q=>V.ref q.1)) from⟨?_,_,m,?_,ho⟩),rfl,q l ps' (I.hok.fresh hl) pp pw m2⟩
  ·rw[List.length_map]
   have:=pp.length_eq
   rw[List.length_map] at this
   omega
  ·clear hp hs k hl ho p1 pp pw m2
   induction ps' with
   | nil=>exact .nil
   | cons a r ih=>exact .cons rfl ih
end
section
variable {X:Cx}
def rSortL (K:PySem.W.Frag):List V->Hp->VK->Prop:=fun xs H Q=>∃ (p:Addr) (ps:List TI'),xs=[.ref p]/\SqL K H p (ps.map fun q=>V.ref q.1)/\(∀ q∈ps,SqT K H q.1 (q.2.map V.int)/\q.2≠[]) /\
 ∀ (l:Addr) (ps':List TI'),H l=none->(ps'.map (·.2)).Perm (ps.map (·.2))->(ps'.map (·.2)).Pairwise lxLe->(∀ q∈ps',SqT K H q.1 (q.2.map V.int))->Q (.ref l) (upd H l (.lst (ps'.map fun q=>V.ref q.1)))
theorem vals_refs {ps:List TI'} {us:List Value} (h:Vals (ps.map fun q=>V.ref q.1) us):us=ps.map fun q=>Value.ref q.1:=by
 induction ps generalizing us with
 | nil=>cases h; rfl
 | cons a r ih=>
  cases h with
  | cons h1 h2=>
   rw[List.map_cons,ih h2]
   have e:_=Value.ref a.1:=h1
   rw[e]
theorem call_sortedL:CallR X (.builtin "sorted") (rSortL X.K):=by
 intro pins s σ H xs us Q I r h
 obtain⟨p,ps,rfl,hq,hps,q⟩:=h
 obtain⟨u,rfl,rx⟩:=vals1 r
 cases rx
 obtain⟨its,r',pl,hz⟩:=I.list hq
 have e:=vals_refs r'
 subst e
 rw[List.length_map] at hz
 refine sorted_tups (ts:=ps.map (·.2)) I (fun Q' hq'=>?_) (by rw[List.length_map]; exact hz) (fun t ht=>?_) (fun l ps' h1 h2 h3 h4=>q l ps' h1 h2 h3 h4)
 ·refine collect_list pl.isList (hq' ps _ s.toks (fun b o e=>?_) ?_ rfl fun q hq=>(hps q hq).1) (by rw[List.length_map]; exact hz)
  ·rw[Heap.get?_update_ne _ _ _ _ (Nat.ne_of_lt (Heap.lt_size e))]
   exact Heap.get?_push_of_some _ e
  ·rw[Heap.size_update,size_push']; omega
 ·obtain⟨q,hq,rfl⟩:=List.mem_map.mp ht
  exact (hps q hq).2
def kI (t:List Int):List Key:=t.map Sum.inl
theorem kI_v (t:List Int):(kI t).map kV=t.map V.int:=by unfold kI; rw[List.map_map]; rfl
def rSortD (K:PySem.W.Frag):List V->Hp->VK->Prop:=fun xs H Q=>∃ (p:Addr) (kvs:List (List Key×V)) (ts:List (List Int)),xs=[.ref p]/\H p=some (.dT kvs)/\kvs.map (·.1)=ts.map kI/\(∀ t∈ts,t≠[]) /\
 ∀ (l:Addr) (ps':List TI'),H l=none->(ps'.map (·.2)).Perm ts->(ps'.map (·.2)).Pairwise lxLe->(∀ q∈ps',SqT K H q.1 (q.2.map V.int))->Q (.ref l) (upd H l (.lst (ps'.map fun q=>V.ref q.1)))
theorem kt_list {H:Hp} {K:PySem.W.Frag}:∀ {kvs:List (List Key×V)} {xs:List (List Key×Addr×Value)} {ts:List (List Int)},KT H kvs xs->kvs.map (·.1)=ts.map kI ->
  ∃ ps:List TI',ps.map (·.2)=ts/\(ps.map fun q=>Value.ref q.1)=(xs.map fun x=>Value.ref x.2.1)/\∀ q∈ps,SqT K H q.1 (q.2.map V.int)
 | _,_,[],.nil,_=>⟨[],rfl,rfl,fun q hq=>absurd hq (by simp)⟩
 | _,_,_::_,.nil,e=>by cases e
 | _,_,[],.cons _ _,e=>by cases e
 | _,_,t::ts,.cons (b:=x) h r,e=>by
  rw[List.map_cons,List.map_cons] at e
  injection e with e1 e2
  obtain⟨ps,p1,p2,p3⟩:=kt_list r e2
  refine⟨(x.2.1,t)::ps,by rw[List.map_cons,p1],by rw[List.map_cons,List.map_cons,p2],fun q hq=>?_⟩
  rcases List.mem_cons.mp hq with rfl | hq
  ·have e3:=h.2.1
   rw[e1,kI_v] at e3
   exact SqT.of e3
  ·exact p3 q hq
theorem call_sortedD (hh:X.A.handled=none):CallR X (.builtin "sorted") (rSortD X.K):=by
 intro pins s σ H xs us Q I r h
 obtain⟨p,kvs,ts,rfl,hp,hk,hne,q⟩:=h
 obtain⟨u,rfl,rx⟩:=vals1 r
 cases rx
 obtain⟨z,lo,xs,rel,o,es,ep,h1,h2,h3,h4,h5,h6⟩:=dt_of I.hok hp
 obtain⟨ps,p1,p2,p3⟩:=kt_list (K:=X.K) rel hk
 have hl:ts.length=kvs.length:=by have:=congrArg List.length hk; rw[List.length_map,List.length_map] at this; exact this.symm
 have hes:es.size=xs.length:=size_of_entries h4
 have hxs:kvs.length=xs.length:=Paired.length rel
 refine sorted_tups (ts:=ts) I (fun Q' hq'=>?_) (by omega) hne (fun l ps' g1 g2 g3 g4=>q l ps' g1 g2 g3 g4)
 refine collect_src (raw_src (es:=es) (ep:=ep) lo) hh ⟨o,h1,h2.1,h3⟩ (by omega) fun h' tk acc k zz it=>?_
 have e:acc.toList=ps.map fun q=>Value.ref q.1:=by
  rw[p2]
  refine List.ext_getElem? fun j=>?_
  rw[Array.getElem?_toList,List.getElem?_map]
  have hj:=entry_at h4 j
  cases hx:xs[j]? with
  | none=>
   have:xs.length<=j:=List.getElem?_eq_none_iff.mp hx
   rw[Array.getElem?_eq_none (by rw[it.1]; omega)]; rfl
  | some x=>
   rw[hx] at hj
   have hlt:j<acc.size:=by
    have:=(List.getElem?_eq_some_iff.mp hx).1
    rw[it.1]; omega
   have ea:acc[j]?=some acc[j]:=Array.getElem?_eq_getElem hlt
   obtain⟨en,e1,e2⟩:=it.2 j _ ea
   rw[hj] at e1
   cases e1
   rw[ea,e2]; rfl
 rw[e]
 exact hq' ps h' tk k zz p1 p3
end
end L3
namespace L3
open PySem PySem.Spec PyProof.Rows L2
structure Chg (fs ch:List Addr) (h h':Heap):Prop where
 keep:∀ b o,h.get? b=some o->b∉fs->b∉ch->h'.get? b=some o
 slot:∀ b o,h.get? b=some o->b∉ch->∃ sl,h'.get? b=some { o with slots:=sl }
 size:h.objs.size<=h'.objs.size
theorem Chg.trans {fs ch:List Addr} {h h1 h2:Heap} (a:Chg fs ch h h1) (b:Chg fs ch h1 h2):Chg fs ch h h2 where
 keep:=fun c o e hf hc=>b.keep c o (a.keep c o e hf hc) hf hc
 slot:=fun c o e hc=>by
  obtain⟨sl,e1⟩:=a.slot c o e hc
  obtain⟨sl2,e2⟩:=b.slot c _ e1 hc
  exact⟨sl2,e2⟩
 size:=Nat.le_trans a.size b.size
theorem Chg.wide {fs ch ch':List Addr} {h h':Heap} (a:Chg fs ch h h') (k:∀ b,b∈ch->b∈ch'):Chg fs ch' h h' where
 keep:=fun c o e hf hc=>a.keep c o e hf fun z=>hc (k c z)
 slot:=fun c o e hc=>a.slot c o e fun z=>hc (k c z)
 size:=a.size
theorem Chg.old {fs ch ch':List Addr} {h h':Heap} (a:Chg fs ch h h') (k:∀ b,b∈ch->b∈ch'\/h.objs.size<=b):Chg fs ch' h h' where
 keep:=fun c o e hf hc=>a.keep c o e hf fun z=>(k c z).elim hc fun q=>absurd (Heap.lt_size e) (Nat.not_lt.mpr q)
 slot:=fun c o e hc=>a.slot c o e fun z=>(k c z).elim hc fun q=>absurd (Heap.lt_size e) (Nat.not_lt.mpr q)
 size:=a.size
theorem Chg.upd {fs:List Addr} {h:Heap} {a:Addr} {f:Obj->Obj}:Chg fs [a] h (h.update a f) where
 keep:=fun c o e _ hc=>by rw[Heap.get?_update_ne _ _ _ _ (fun z=>hc (by simp[z]))]; exact e
 slot:=fun c o e hc=>⟨o.slots,by rw[Heap.get?_update_ne _ _ _ _ (fun z=>hc (by simp[z]))]; exact e⟩
 size:=by rw[Heap.size_update]; exact Nat.le_refl _
theorem Chg.push {fs:List Addr} {h:Heap} {o:Obj}:Chg fs [] h (h.push o) where
 keep:=fun c o e _ _=>Heap.get?_push_of_some _ e
 slot:=fun c o e _=>⟨o.slots,Heap.get?_push_of_some _ e⟩
 size:=by rw[size_push']; omega
def FlyAt (h:Heap) (x T:Addr) (cls fl:Value):Prop:=
 ∃ oe vs oT ts,h.get? x=some oe/\oe.cls=cls/\oe.data=.fields vs/\vs[1]?=some (.ref T)/\T≠x/\h.get? T=some oT/\oT.data=.fields ts/\ts[3]?=some fl
section
variable {M:Model} {A:Around} {E:Value->Shared->Prop} {s:Shared} {base:Heap} {env:Env} {outer:List Env} {L x T:Addr} {cls:Value} {Q:Unit->Shared->Prop}
theorem not_frame (hl:s.heap.FunFrames base (env::outer)) {b:Addr} {o:Obj} {vs:Array Value} (e:s.heap.get? b=some o) (d:o.data=.fields vs):b∉(env::outer).filterMap (·.frame):=fun hm=>by
 obtain⟨_,ob,ho,hnf⟩:=hl.mem hm
 rw[e] at ho; injection ho with ho; subst ho; exact hnf vs d
theorem wp_entry {oe:Obj} {vs:Array Value} {head:Value} {hadNext:Bool} (hfr:A.frames=some (env::outer)) (hl:s.heap.FunFrames base (env::outer)) (hf:env.frame=some L)
  (he:s.heap.get? x=some oe) (hd:oe.data=.fields vs) (hsz:1<vs.size)
  (h:∀ h' T',Chg ((env::outer).filterMap (·.frame)) [x] s.heap h'->s.heap.objs.size<=T'->FlyAt h' x T' oe.cls (rawInt L)->Q () { s with heap:=h' }) :
  wpAny M A (do let a ← frameOf env; let pl ← entryPlaceOf L hadNext; let b ← EntryCells.newEntry head a .none (rawInt L) .none pl; setField (.ref x) 1 b) Q E s:=by
 refine wpAny_bind (wpAny_frameOf_fun hfr hl hf fun h₁ hs₁=>?_)
 refine wpAny_bind (wpAny_entryPlaceOf fun pl hpl=>?_)
 unfold EntryCells.newEntry newFields
 refine wpAny_bind (wpAny_newObj_type ?_ (hpl.sizeOk5 _ _ _ _ _))
 have he₁:h₁.get? x=some oe:=(hs₁.2.1 x (not_frame hl he hd)).trans he
 have c1:Chg ((env::outer).filterMap (·.frame)) [x] s.heap h₁:=⟨fun b o e hb _=>(hs₁.2.1 b hb).trans e,fun b o e _=>hs₁.2.2 b o e,Nat.le_of_eq hs₁.1.symm⟩
 have he₂:=Heap.get?_push_of_some (h:=h₁) { cls:=.type "traceback",dict:=none,data:=.fields ([head,.ref L,.none,rawInt L,.none]++(if pl.isEmpty then List.replicate 6 Value.none else pl)).toArray } he₁
 refine wpAny_setField he₂ hd hsz ?_
 have hTx:h₁.objs.size≠x:=Nat.ne_of_gt (Heap.lt_size he₁)
 have hd₃:=Obj.data_mapFields hd (·.setIfInBounds 1 (Value.ref h₁.objs.size))
 have hT:((h₁.push { cls:=.type "traceback",dict:=none,data:=.fields ([head,.ref L,.none,rawInt L,.none]++(if pl.isEmpty then List.replicate 6 Value.none else pl)).toArray }).update x (Obj.mapFields (·.setIfInBounds 1 (Value.ref h₁.objs.size)))).get? h₁.objs.size =
   some { cls:=.type "traceback",dict:=none,data:=.fields ([head,.ref L,.none,rawInt L,.none]++(if pl.isEmpty then List.replicate 6 Value.none else pl)).toArray }:=by
  rw[Heap.get?_update_ne _ _ _ _ hTx]; exact Heap.get?_push_size h₁ rfl
 exact h _ h₁.objs.size (c1.trans ((Chg.push.wide (by simp)).trans Chg.upd)) (Nat.le_of_eq hs₁.1.symm) ⟨_,_,_,_,Heap.get?_update_self _ he₂ (Obj.isFreed_of_fields hd₃),Obj.cls_mapFields _ _,hd₃,by simp[hsz],hTx,hT,rfl,by simp⟩
theorem wp_note0 {oe:Obj} {vs:Array Value} (hfr:A.frames=some (env::outer)) (hl:s.heap.FunFrames base (env::outer)) (hf:env.frame=some L) (he:s.heap.get? x=some oe) (hd:oe.data=.fields vs) (h1:vs[1]?=some .none)
  (h:∀ h' T',Chg ((env::outer).filterMap (·.frame)) [x] s.heap h'->s.heap.objs.size<=T'->FlyAt h' x T' oe.cls (rawInt L)->Q () { s with heap:=h' }):wpAny M A (noteFrame (.ref x) env) Q E s:=by
 unfold noteFrame
 simp only[hf]
 refine wpAny_bind (wpAny_field he hd h1 ?_)
 rw[if_neg (by decide)]
 exact wp_entry hfr hl hf he hd (Array.getElem?_eq_some_iff.mp h1).1 h
theorem wp_note (hfr:A.frames=some (env::outer)) (hl:s.heap.FunFrames base (env::outer)) (hf:env.frame=some L) (F:FlyAt s.heap x T cls .none)
  (h:∀ h' T',Chg ((env::outer).filterMap (·.frame)) [x,T] s.heap h'->s.heap.objs.size<=T'->FlyAt h' x T' cls (rawInt L)->Q () { s with heap:=h' }):wpAny M A (noteFrame (.ref x) env) Q E s:=by
 obtain⟨oe,vs,oT,ts,g1,g2,g3,g4,g5,g6,g7,g8⟩:=F
 subst g2
 unfold noteFrame
 simp only[hf]
 refine wpAny_bind (wpAny_field g1 g3 g4 ?_)
 rw[if_pos (show (Value.ref T != Value.none)=true from by simp)]
 refine wpAny_bind (wpAny_field g6 g7 g8 ?_)
 rw[if_neg (by simp[rawInt])]
 refine wpAny_bind (wpAny_setField g6 g7 (Array.getElem?_eq_some_iff.mp g8).1 ?_)
 have e1:(s.heap.update T (Obj.mapFields (·.setIfInBounds 3 Value.none))).get? x=some oe:=by rw[Heap.get?_update_ne _ _ _ _ (Ne.symm g5)]; exact g1
 refine wp_entry (s:={ s with heap:=s.heap.update T (Obj.mapFields (·.setIfInBounds 3 Value.none)) }) (base:=base) hfr (hl.of_keeps fun b o hb hnf=>?_) hf e1 g3 (Array.getElem?_eq_some_iff.mp g4).1 fun h' T' c z F'=>?_
 ·refine⟨o,?_,rfl⟩
  show (s.heap.update T _).get? b=some o
  rw[Heap.get?_update_ne _ _ _ _ (fun z=>by subst z; rw[g6] at hb; cases hb; exact hnf ts g7)]; exact hb
 ·refine h h' T' ((Chg.upd.wide (by simp)).trans (c.wide (by simp))) ?_ F'
  have z':(s.heap.update T (Obj.mapFields (·.setIfInBounds 3 Value.none))).objs.size<=T':=z
  rw[Heap.size_update] at z'; exact z'
theorem wp_flight {fl:Value} (F:FlyAt s.heap x T cls fl) (h:∀ h',Chg [] [T] s.heap h'->FlyAt h' x T cls .none->Q () { s with heap:=h' }):wpAny M A (setFlight (.ref x) none) Q E s:=by
 obtain⟨oe,vs,oT,ts,g1,g2,g3,g4,g5,g6,g7,g8⟩:=F
 unfold setFlight
 refine wpAny_bind (wpAny_field g1 g3 g4 ?_)
 rw[if_pos (show (Value.ref T != Value.none)=true from by simp)]
 have lt:=(Array.getElem?_eq_some_iff.mp g8).1
 have hd:=Obj.data_mapFields g7 (·.setIfInBounds 3 ((none:Option Addr).elim Value.none fun f=>rawInt f))
 refine wpAny_setField g6 g7 lt (h _ Chg.upd ⟨oe,vs,_,_,?_,g2,g3,g4,g5,Heap.get?_update_self _ g6 (Obj.isFreed_of_fields hd),hd,?_⟩)
 ·rw[Heap.get?_update_ne _ _ _ _ (Ne.symm g5)]; exact g1
 ·simp[lt]
theorem wp_leave0 {oe:Obj} {vs:Array Value} (hfr:A.frames=some (env::outer)) (hl:s.heap.FunFrames base (env::outer)) (hf:env.frame=some L) (he:s.heap.get? x=some oe) (hd:oe.data=.fields vs) (h1:vs[1]?=some .none)
  (h:∀ h' T',Chg ((env::outer).filterMap (·.frame)) [x] s.heap h'->s.heap.objs.size<=T'->FlyAt h' x T' oe.cls .none->Q () { s with heap:=h' }):wpAny M A (leaving env (.ref x)) Q E s:=by
 unfold leaving
 refine wpAny_bind (wp_note0 hfr hl hf he hd h1 fun h' T' c z F=>wp_flight F fun h2 c2 F2=>?_)
 refine h h2 T' ((c.wide (ch':=[x,T']) (by simp)).trans ⟨fun b o e hb hc=>c2.keep b o e (by simp) fun q=>hc (by simp at q; simp[q]),fun b o e hc=>c2.slot b o e fun q=>hc (by simp at q; simp[q]),c2.size⟩ |>.old fun b hb=>?_) z F2
 simp at hb
 rcases hb with rfl | rfl
 ·simp
 ·exact .inr z
theorem wp_leave (hfr:A.frames=some (env::outer)) (hl:s.heap.FunFrames base (env::outer)) (hf:env.frame=some L) (F:FlyAt s.heap x T cls .none)
  (h:∀ h' T',Chg ((env::outer).filterMap (·.frame)) [x,T] s.heap h'->s.heap.objs.size<=T'->FlyAt h' x T' cls .none->Q () { s with heap:=h' }):wpAny M A (leaving env (.ref x)) Q E s:=by
 unfold leaving
 refine wpAny_bind (wp_note hfr hl hf F fun h' T' c z F1=>wp_flight F1 fun h2 c2 F2=>?_)
 refine h h2 T' ((c.wide (ch':=[x,T,T']) (by simp)).trans ⟨fun b o e hb hc=>c2.keep b o e (by simp) fun q=>hc (by simp at q; simp[q]),fun b o e hc=>c2.slot b o e fun q=>hc (by simp at q; simp[q]),c2.size⟩ |>.old fun b hb=>?_) z F2
 simp at hb
 rcases hb with rfl | rfl | rfl
 ·simp
 ·simp
 ·exact .inr z
end
end L3
namespace L3
open PySem PySem.Spec PyProof.Rows L2
def CXE (P:Program) (w:World):CXT:=fun outer H s E e s'=>∃ x C T H',e=.ref x/\s'.os=s.os/\AllBare s'.gens/\Un (frs outer) [] H H' s.heap s'.heap/\HOk P w H' s'.heap/\s.heap.get? x=none/\s.heap.get? T=none /\
 FlyAt s'.heap x T (.ref C) .none/\H' x=none/\H' T=none/\E (.ref C) none H'
theorem ob_there {P:Program} {w:World} {H:Hp} {h:Heap} {a:Addr} {o:HO} (x:ObjOk P w H h a o):∃ ob,h.get? a=some ob:=by
 cases o with
 | lst xs=>obtain⟨_,_,_,_,e⟩:=x; exact⟨_,e⟩
 | tup xs=>obtain⟨_,_,_,ob,e,_⟩:=x; exact⟨_,e⟩
 | dK kvs=>obtain⟨_,_,_,_,o,_,_,e,_⟩:=x; exact⟨_,e⟩
 | dT kvs=>obtain⟨_,_,_,_,o,_,_,e,_⟩:=x; exact⟨_,e⟩
 | set S n=>obtain⟨o,_,_,_,e,_⟩:=x; exact⟨_,e⟩
 | ins C dx fs=>obtain⟨_,_,_,e,_⟩:=x; exact⟨_,e⟩
 | own y=>exact x
 | xd fs=>obtain⟨_,⟨_,_,_,e,_⟩,_⟩:=x; exact⟨_,e⟩
 | rng lo hi=>obtain⟨_,_,_,e⟩:=x; exact⟨_,e⟩
 | frz ob u=>obtain⟨e,_⟩:=x; exact⟨_,e⟩
 | tbl ps=>exact⟨_,show h.get? a=some _ from x⟩
 | met f y=>exact⟨_,show h.get? a=some _ from x⟩
 | ext φ=>exact x.2.1
theorem HOk.chg {P:Program} {w:World} {H:Hp} {h h':Heap} {fs ch:List Addr} (ok:HOk P w H h) (c:Chg fs ch h h') (hf:∀ b∈fs,H b=none) (hc:∀ b∈ch,H b=none):HOk P w H h':=fun b u e=>by
 refine (ok b u e).stay (fun d v hd q=>c.keep d v q (fun z=>?_) fun z=>?_) (fun _ q=>q) fun _ _ q=>q
 ·have n:=hf d z
  rcases hd with rfl | hd
  ·rw[e] at n; cases n
  ·rw[hd] at n; cases n
 ·have n:=hc d z
  rcases hd with rfl | hd
  ·rw[e] at n; cases n
  ·rw[hd] at n; cases n
theorem Un.chg {H H':Hp} {h0 h1 h2:Heap} {fs ch:List Addr} {L:Addr} (u:Un fs [] H H' h0 h1) (c:Chg (L::fs) ch h1 h2) (hL:h0.get? L=none) (hc:∀ b∈ch,h0.get? b=none):Un fs [] H H' h0 h2:=by
 have nc:∀ b o,h0.get? b=some o->b∉ch:=fun b o e z=>by rw[hc b z] at e; cases e
 have nL:∀ b o,h0.get? b=some o->b≠L:=fun b o e z=>by rw[z,hL] at e; cases e
 refine⟨fun b o e n hb hx=>c.keep b o (u.keep b o e n hb hx) (fun z=>(List.mem_cons.mp z).elim (nL b o e) hb) (nc b o e),fun b o e n hb hx=>?_,u.free,fun b o e hx=>?_,u.tups,u.frzs,u.tbls⟩
 ·obtain⟨sl,e1⟩:=u.slot b o e n hb hx
  obtain⟨sl2,e2⟩:=c.slot b _ e1 (nc b o e)
  exact⟨sl2,e2⟩
 ·obtain⟨o',e1⟩:=u.there b o e hx
  obtain⟨sl,e2⟩:=c.slot b _ e1 (nc b o e)
  exact⟨_,e2⟩
section
variable {X:Cx} {pins:List (Addr×Obj)} {σ:L2.St} {H:Hp} {s s':Shared} {E:XK} {e:Value}
theorem Inv.raised (I:Inv X pins σ H s) (h:CXE X.prog X.w X.stack H s E e s') :
  ∃ x C T H',e=.ref x/\Inv X pins σ H' s'/\FlyAt s'.heap x T (.ref C) .none/\H' x=none/\H' T=none/\s.heap.get? x=none/\s.heap.get? T=none/\E (.ref C) none H':=by
 obtain⟨x,C,T,H',rfl,os,bare,un,hok,n1,n2,F,g1,g2,q⟩:=h
 exact⟨x,C,T,H',rfl,I.call' os un hok bare (fun b z=>absurd z (by simp)),F,g1,g2,n1,n2,q⟩
end
section
variable {P:Program} {w:World} {K:PySem.W.Frag} {mg:Str->Option Value} {base:Heap} {N:List Str} {qual:Str} {scope:Scope} {f:Addr} {cd:Value} {A:Around} {outer:List Env} {s₀:Shared} {H₀:Hp} {E₀:XK}
abbrev cxE (P:Program) (w:World) (K:PySem.W.Frag) (mg:Str->Option Value) (base:Heap) (N:List Str) (qual:Str) (scope:Scope) (f:Addr) (cd:Value) (A:Around) (outer:List Env) (s₀:Shared) (H₀:Hp) (E₀:XK):Cx:=
 cxOf (CXE P w) P w K mg base N qual scope f cd A outer s₀ H₀ E₀
theorem xe_fly {pins:List (Addr×Obj)} {σ:L2.St} {H:Hp} {s:Shared} {x C T:Addr} (I:Inv (cxE P w K mg base N qual scope f cd A outer s₀ H₀ E₀) pins σ H s) (F:FlyAt s.heap x T (.ref C) .none) (hx:H x=none) (hT:H T=none)
  (nx:s₀.heap.get? x=none) (nT:s₀.heap.get? T=none) (q:E₀ (.ref C) none H):(cxE P w K mg base N qual scope f cd A outer s₀ H₀ E₀).xe (.ref x) s:=by
 have fr:=I.ok.frames
 have st:=I.stack
 have sf:=I.stkFree
 refine wp_leave (base:=base) (L:=s₀.heap.objs.size) fr st rfl F fun h' T' c z F'=>?_
 have nL:s₀.heap.get? s₀.heap.objs.size=none:=by
  cases e:s₀.heap.get? s₀.heap.objs.size with
  | none=>rfl
  | some o=>exact absurd (Heap.lt_size e) (Nat.lt_irrefl _)
 have nT':s₀.heap.get? T'=none:=by
  cases e:s₀.heap.get? T' with
  | none=>rfl
  | some o=>exact absurd (Heap.lt_size e) (Nat.not_lt.mpr (Nat.le_trans I.sz z))
 refine⟨x,C,T',H,rfl,I.os,I.bare,Un.chg (L:=s₀.heap.objs.size) I.base c nL (fun b hb=>?_),HOk.chg I.hok c (fun b hb=>sf b hb) (fun b hb=>?_),nx,nT',F',hx,I.hok.fresh z,q⟩
 ·simp at hb; rcases hb with rfl | rfl
  ·exact nx
  ·exact nT
 ·simp at hb; rcases hb with rfl | rfl
  ·exact hx
  ·exact hT
theorem xe_new {pins:List (Addr×Obj)} {σ:L2.St} {H:Hp} {s:Shared} {h1:Heap} {x C:Addr} {vs:List Value} (I:Inv (cxE P w K mg base N qual scope f cd A outer s₀ H₀ E₀) pins σ H s) (hx:Heap.MadeExcOf s.heap h1 x (.ref C) vs)
  (q:E₀ (.ref C) none H):(cxE P w K mg base N qual scope f cd A outer s₀ H₀ E₀).xe (.ref x) { s with heap:=h1 }:=by
 have I1:Inv (cxE P w K mg base N qual scope f cd A outer s₀ H₀ E₀) pins σ H { s with heap:=h1 }:=I.kept (t':=s.toks) hx.keeps
 obtain⟨t,h2,h3,h4⟩:=hx.there
 have nx:s₀.heap.get? x=none:=by
  cases e:s₀.heap.get? x with
  | none=>rfl
  | some o=>
   obtain⟨o',e'⟩:=I.base.there x o e (by show x∉([]:List Addr); simp)
   rw[hx.new] at e'; cases e'
 have hHx:H x=none:=by
  cases e:H x with
  | none=>rfl
  | some u=>
   have hn:=hx.new
   have:∃ ob,s.heap.get? x=some ob:=by
    have k:=I.hok x u e
    exact ob_there k
   obtain⟨ob,eo⟩:=this
   rw[hn] at eo; cases eo
 refine wp_leave0 (base:=base) (L:=s₀.heap.objs.size) I1.ok.frames I1.stack rfl h2 rfl rfl fun h' T' c z F'=>?_
 have nL:s₀.heap.get? s₀.heap.objs.size=none:=by
  cases e:s₀.heap.get? s₀.heap.objs.size with
  | none=>rfl
  | some o=>exact absurd (Heap.lt_size e) (Nat.lt_irrefl _)
 have nT':s₀.heap.get? T'=none:=by
  cases e:s₀.heap.get? T' with
  | none=>rfl
  | some o=>exact absurd (Heap.lt_size e) (Nat.not_lt.mpr (Nat.le_trans I1.sz z))
 refine⟨x,C,T',H,rfl,I1.os,I1.bare,Un.chg (L:=s₀.heap.objs.size) I1.base c nL (fun b hb=>?_),HOk.chg I1.hok c (fun b hb=>I1.stkFree b hb) (fun b hb=>?_),nx,nT',F',hHx,I1.hok.fresh z,q⟩
 ·simp at hb; rw[hb]; exact nx
 ·simp at hb; rw[hb]; exact hHx
theorem pass_on {E:XK} (hE:∀ c d H,E c d H->E₀ c d H):Passes (CXE P w) (cxE P w K mg base N qual scope f cd A outer s₀ H₀ E₀) E:=by
 intro pins σ H s e s' I h
 obtain⟨x,C,T,H',rfl,I',F,g1,g2,n1,n2,q⟩:=Inv.raised I h
 have old:∀ b,s.heap.get? b=none->s₀.heap.get? b=none:=fun b hb=>by
  cases e:s₀.heap.get? b with
  | none=>rfl
  | some o=>
   obtain⟨o',e'⟩:=I.base.there b o e (by show b∉([]:List Addr); simp)
   rw[hb] at e'; cases e'
 exact xe_fly I' F g1 g2 (old x n1) (old T n2) (hE _ _ _ q)
end
end L3
namespace L3
open PySem PySem.Spec PyProof.Rows L2
def PJ (X:Cx) (es:List Expr) (n:Nat) (t:L2.St->Hp->Prop):Prop:=
 ∀ (pins:List (Addr×Obj)) (s:Shared) (σ:L2.St) (H:Hp) (out:Str) (Q:Value->Shared->Prop),Inv X pins σ H s->t σ H->out.length+n<=sizeLine->(∀ y tk s',Inv X pins σ H s'->Q (.str y tk) s') ->
  wpAny (model X.prog X.w) X.A (joinParts out (evalEach es X.env)) Q X.xe s
section
variable {X:Cx} {es:List Expr} {n:Nat} {t:L2.St->Hp->Prop}
theorem pj_nil:PJ X [] 0 (fun _ _=>True):=fun pins s σ H out Q I _ hz q=>joinParts_nil (q _ _ _ (I.tok _)) (by simpa using hz)
theorem pj_text {x:Str} {j pos} (h:PJ X es n t):PJ X (.Constant (.str x) j pos::es) (x.length+n) t:=fun pins s σ H out Q I ht hz q=>by
 have hl:(out++x).length=out.length+x.length:=strLen_append _ _
 exact joinParts_cons (Calls.Constant_str ⟨by omega,h pins _ σ H _ Q (I.tok _) ht (by omega) q⟩)
theorem pj_int {e:Expr} {te:TE} {pos:Pos} (he:PE X e te) (h:PJ X es n t):PJ X (.FormattedValue e (-1) none pos::es) (1921+n) (fun σ H=>te σ H fun v H1=>H1=H/\(∃ i:Int,v=.int i/\i.natAbs.log2<1920)/\t σ H):=fun pins s σ H out Q I ht hz q=>by
 refine joinParts_cons (FormattedValue_plain (thn (he pins s σ H _ I ht) fun u s1 ⟨v,H1,I1,r1,e1,⟨i,e2,hi⟩,q1⟩=>?_))
 subst e1 e2
 obtain⟨tk,rfl⟩:=r1
 have hl:=int_text_length_le (k:=1920) (by decide) hi
 have fin:∀ s2,Inv X pins σ H1 s2->(out++Str.ofString (toString i)).length<=sizeLine/\wpAny (model X.prog X.w) X.A (joinParts (out++Str.ofString (toString i)) (evalEach es X.env)) Q X.xe s2:=fun s2 I2=>by
  have e3:(out++Str.ofString (toString i)).length=out.length+(Str.ofString (toString i)).length:=strLen_append _ _
  have e4:(Str.ofString (toString i)).length=(toString i).length:=PySem.ofString_length _
  exact⟨by omega,h pins s2 σ H1 _ Q I2 q1 (by omega) q⟩
 first
  | exact wpAny_formatField_int hi (fin _ (I1.tok _))
  | exact wpAny_formatField_int hi (fin _ (I1.tok _)) (fin _ (I1.tok _))
theorem pe_join {v₁ v₂:Expr} {rest:List Expr} {pos:Pos} (h:PJ X (v₁::v₂::rest) n t) (hn:n<=sizeLine:=by decide):PE X (.JoinedStr (v₁::v₂::rest) pos) (fun σ H Q=>t σ H/\∀ y,Q (.str y) H):=fun pins s σ H Q I ⟨ht,q⟩=>by
 refine JoinedStr_many (h pins s σ H Str.empty _ I ht (by rw[show Str.empty.length=0 from rfl]; omega) fun y tk s' I'=>?_)
 exact⟨.str y,H,I',⟨tk,rfl⟩,q y⟩
end
abbrev bmV:List Value:=[.type "ValueError",.type "Exception",.type "BaseException",.type "object"]
structure XCls (K:PySem.W.Frag) (C:Addr):Prop where
 ok:PySem.W.excIn K C bmV "ValueError.__new__" = true
theorem XCls.obj {K:PySem.W.Frag} {C:Addr} (c:XCls K C) {h:Heap} (X:K.In h) :
  ∃ bm N nm q bs hdct sn sub ab col dd k0 k1 k2 k3 k5 mN,h.get? C=some (excClassObj nm q C N bs bm hdct sn sub ab col dd k0 k1 k2 k3 k5 "ValueError.__new__")/\h.Ns N mN/\mN "__init__" = none/\OwnTail h bmV bm:=by
 have q:=c.ok
 unfold PySem.W.excIn at q
 split at q
 ·rename_i dd cd sl ho
  split at q
  ·rename_i C' bm k0 k1 k2 k3 n k5 hm hs
   simp only[Bool.and_eq_true,beq_iff_eq,Bool.not_eq_true'] at q
   obtain⟨⟨⟨⟨⟨e1,e2⟩,e3⟩,e4⟩,e5⟩,e6⟩:=q
   subst e1 e2
   cases cd
   dsimp only at hm e3 e5 e6
   subst hm e3
   have hsl:sl = #[k0,k1,k2,k3,some (.builtin "ValueError.__new__"),k5]:=by
    cases sl
    simp only at hs
    rw[hs]
   subst hsl
   exact⟨bm,_,_,_,_,_,_,_,_,_,dd,k0,k1,k2,k3,k5,_,X _ _ ho,.of_isNs (PySem.W.isNs_of_in X e5),PySem.W.nsMap_none_of_in X e5 e6,PySem.W.tail_of_in X e4⟩
  ·cases q
 ·cases q
def sRaise (C:Addr) (t:TA) (E:XK):TS:=fun D σ H=>t σ H fun vs H1=>vs.length<=sizeLine/\E (.ref C) none H1
section
variable {X:Cx} {x:Str} {C:Addr} {e:Expr} {t:TA} {np cpos pos:Pos} {E₀:XK}
theorem ps_raise (hc:X.calm=true) (hg:Gl X x) (hm:X.mg x=some (.ref C)) (c:XCls X.K C) (ha:PA X [e] t)
  (hxe:∀ pins σ H s h1 y vs,Inv X pins σ H s->Heap.MadeExcOf s.heap h1 y (.ref C) vs->E₀ (.ref C) none H->X.xe (.ref y) { s with heap:=h1 })
  (hs:starEach [e] X.env=[(false,eval e X.env)]:=by rfl) (hd:(x == ("__debug__" : Str))=false:=by decide):PS X (.Raise (some (.Call (.Name x np) [e] [] cpos)) none pos) (sRaise C t E₀):=by
 intro pins s σ H D I h
 obtain⟨bm,N,nm,q,bs,hdct,sn,sub,ab,col,dd,k0,k1,k2,k3,k5,mN,hC,hN,hni,T⟩:=c.obj I.mod.kin
 have hh:X.A.handled=none:=I.ok.hd hc
 refine wpAny_Raise_call_subT (C:=C) (nm:=nm) (q:=q) (N:=N) (bs:=bs) (bm:=bm) (hdct:=hdct) (sn:=sn) (sub:=sub) (ab:=ab) (col:=col) (dd:=dd) (k0:=k0) (k1:=k1) (k2:=k2) (k3:=k3) (k5:=k5) PySem.F.excBase_ValueError (mN:=mN) (T.hasType rfl) hh (by rw[hs]; rfl) hni (ld_glob I hg hm ⟨rfl,?_⟩ hd)
 have h2:=ha cpos pins s σ H _ I h
 rw[hs] at h2 ⊢
 refine Calls.evalArgs_plain (thn h2 fun us s2 ⟨vs,H2,I2,r2,hl,q2⟩=>?_)
 exact⟨rfl,by rw[<-r2.length]; exact hl,I2.bk _ _ hC,hN.keeps I2.bk,T.keeps I2.bk,fun h1 y hy=>hxe pins σ H2 s2 h1 y us I2 hy q2⟩
end
end L3
namespace L3
open PySem PySem.Spec PyProof.Rows L2
structure Under (K:PySem.W.Frag) (C D:Addr):Prop where
 sub:PySem.W.mroIn K C (.ref D)=some true
section
variable {M:Model} {A:Around} {E:Value->Shared->Prop} {s:Shared}
theorem exc_matches {K:PySem.W.Frag} {x C D:Addr} {oe:Obj} {Q:Bool->Shared->Prop} (X:K.In s.heap) (he:s.heap.get? x=some oe) (hcls:oe.cls=.ref C) (cD:XCls K D) (u:Under K C D) (q:Q true s):wpAny M A (excMatches (.ref x) (.ref D)) Q E s:=by
 obtain⟨bm,N,nm,q',bs,hdct,sn,sub,ab,col,dd,k0,k1,k2,k3,k5,mN,hC,hN,hni,T⟩:=cD.obj X
 have hb:bm.contains (.type "BaseException")=true:=T.hasType rfl
 have hcB:(Value.ref D::bm).contains (.type "BaseException")=true:=by rw[List.contains_cons,hb,Bool.or_true]
 have f:=tc_notTuple
 have mm:∀ (E':Value->Shared->Prop) (Q':Bool->Shared->Prop),Q' true s->wpAny M A (isSubtype (.ref C) (.ref D)) Q' E' s:=fun E' Q' hq=>(PySem.W.looks_mroIn (M:=M) X u.sub).here hq
 obtain⟨hh,g,d,tk,os⟩:=s
 unfold excMatches
 repeat (first | (with_reducible refine wpAny_loadPart_at he ?_; rw[hcls]) | with_reducible refine wpAny_loadPart_at hC ?_ | (with_reducible refine wpAny_isSubtype_exc hC ?_; rw[hcB]) | (with_reducible refine mm _ _ ?_) | wp_step)
 exact q
end
section
variable {X:Cx} {pins:List (Addr×Obj)} {σ:L2.St} {H:Hp} {s:Shared}
theorem unbind_ok {M:Model} {A:Around} {E:Value->Shared->Prop} {i:Nat} {x:Str} {v:V} {Q:Unit->Shared->Prop} (I:Inv X pins σ H s) (hN:X.N.Nodup) (hi:X.N[i]?=some x) (hx:X.env.scope.names.lookup x=some .local) (hv:σ[i]?=some (some v))
  (h:∀ s',Inv X pins (σ.set i none) H s'->Q () s'):wpAny M A (unbindName X.env x) Q E s:=by
 obtain⟨m,hn,hl⟩:=id I.loc
 have hcls:(X.env.scope.kind == .class||(X.env.scope.kind == .module&&X.env.locals != X.env.globals))=false:=by rw[I.ok.kind]; rfl
 have hiσ:i<σ.length:=by rw[I.len]; exact (List.getElem?_eq_some_iff.mp hi).1
 obtain⟨u,r,l⟩:=hl i x v hi hv (.inl hx)
 have hm:m x=some u:=by
  rcases l with ⟨_,e⟩ | ⟨k,_⟩
  ·exact e
  ·rcases k with k | k
   ·have k':X.env.scope.names.lookup x=some .cell:=k
    rw[hx] at k'; cases k'
   ·have k':X.env.scope.names.lookup x=some .free:=k
    rw[hx] at k'; cases k'
 refine wpAny_unbindName_local hx hn hm hcls fun h' w' hn' hs=>?_
 have cne:=I.cne
 have keepO:∀ b,b<X.s₀.heap.objs.size->b≠X.env.locals:=fun b hb=>Nat.ne_of_lt (Nat.lt_of_lt_of_le hb I.ok.above)
 refine h _ ⟨I.ok,I.os,I.bare,⟨fun b o e n hb hx=>(hs.2 b (keepO b (Heap.lt_size e))).trans (I.base.keep b o e n hb hx),fun b o e n hb hx=>?_,I.base.free,fun b o e hx=>?_,I.base.tups,I.base.frzs,I.base.tbls⟩,⟨_,hn',fun j y v' e1 e2 e3=>?_⟩,fun y c e=>?_,I.free,I.freeC,fun p hp=>?_,?_,by rw[List.length_set]; exact I.len⟩
 ·obtain⟨sl,e1⟩:=I.base.slot b o e n hb hx
  exact⟨sl,(hs.2 b (keepO b (Heap.lt_size e))).trans e1⟩
 ·obtain⟨o',e1⟩:=I.base.there b o e hx
  exact⟨o',(hs.2 b (keepO b (Heap.lt_size e))).trans e1⟩
 ·by_cases hj:j=i
  ·subst hj
   rw[List.getElem?_set_self hiσ] at e2
   cases e2
  ·rw[List.getElem?_set_ne (Ne.symm hj)] at e2
   obtain⟨u',r',q⟩:=hl j y v' e1 e2 e3
   refine⟨u',r',?_⟩
   rcases q with ⟨k,e⟩ | ⟨k,c,e,z⟩
   ·refine .inl ⟨k,?_⟩
    have:y≠x:=fun e=>hj (nodup_ix hN e1 (e ▸ hi))
    simp[this,e]
   ·exact .inr ⟨k,c,e,z.sameBut hs (cne y c e)⟩
 ·obtain⟨w2,z⟩:=I.cell y c e
  exact⟨w2,z.sameBut hs (cne y c e)⟩
 ·obtain⟨e,n,ne,nf,d⟩:=I.pin p hp
  exact⟨(hs.2 p.1 ne).trans e,n,ne,nf,d⟩
 ·intro b ob e
  refine (I.hok b ob e).stay (fun c w3 hc q=>(hs.2 c ?_).trans q) (fun _ q=>q) fun _ _ q=>q
  rintro rfl
  have fr:=I.free
  rcases hc with hc | hc
  ·rw[<-hc,fr] at e; cases e
  ·rw[hc] at fr; cases fr
theorem Inv.take {x:Addr} {o:HO} (I:Inv X pins σ H s) (hn:H x=none) (n0:X.s₀.heap.get? x=none) (nL:x≠X.env.locals) (nC:∀ y c,X.env.cells.lookup y=some c->c≠x) (nP:∀ p∈X.pn++pins,p.1≠x)
  (new:ObjOk X.prog X.w (upd H x o) s.heap x o):Inv X pins σ (upd H x o) s:=by
 have nx:∀ b u,H b=some u->b≠x:=fun b u e z=>by rw[z,hn] at e; cases e
 refine⟨I.ok,I.os,I.bare,⟨I.base.keep,I.base.slot,fun b ob e n hx=>?_,I.base.there,fun b xs e=>?_,fun b ob u e=>?_,fun b ps e=>?_⟩,I.loc,I.cell,by rw[upd_ne (Ne.symm nL)]; exact I.free,fun y c e=>by rw[upd_ne (nC y c e)]; exact I.freeC y c e,fun p hp=>?_,fun b u e=>?_,I.len⟩
 ·rw[upd_ne (fun z=>by rw[z,n0] at e; cases e)]; exact I.base.free b ob e n hx
 ·have:=I.base.tups b xs e; rw[upd_ne (nx _ _ this)]; exact this
 ·have:=I.base.frzs b ob u e; rw[upd_ne (nx _ _ this)]; exact this
 ·obtain⟨more,q⟩:=I.base.tbls b ps e
  exact⟨more,by rw[upd_ne (nx _ _ q)]; exact q⟩
 ·obtain⟨e,n,ne,nf,d⟩:=I.pin p hp
  exact⟨e,by rw[upd_ne (nP p hp)]; exact n,ne,nf,d⟩
 ·by_cases hb:b=x
  ·subst hb; rw[upd_same] at e; cases e; exact new
  ·rw[upd_ne hb] at e
   exact (I.hok b u e).stay (fun c v _ q=>q) (fun c q=>by rw[upd_ne (nx _ _ q)]; exact q) fun c xs q=>by rw[upd_ne (nx _ _ q)]; exact q
end
end L3
namespace L3
open PySem PySem.Spec PyProof.Rows L2
structure XAttr (K:PySem.W.Frag) (C:Addr):Prop where
 cls:PySem.W.findIn K (.ref C) "__class__" = some (some (.builtin "object.__class__"))
 ga:PySem.W.findIn K (.ref C) "__getattribute__" = some (some (.builtin "BaseException.__getattribute__"))
 nga:PySem.W.findIn K (.ref C) "__getattr__" = some none
section
variable {prog:Program} {w:World} {A:Around} {E:Value->Shared->Prop} {h:Heap} {g:Array GenState} {d:Drawn} {t:Nat} {os:OsState} {a C:Addr} {o:Obj} {K:PySem.W.Frag}
theorem xc_get {R:Result->Shared->Prop} (X:K.In h) (c:XCls K C) (hx:h.get? a=some o) (hc:o.cls=.ref C) (hq:R (.ok (.ret (.ref C))) ⟨h,g,d,t,os⟩) :
  codeAny (model prog w) A (.call (.builtin "getset_descriptor.__get__") ⟨[.builtin "object.__class__",.ref a,.ref C],[]⟩) R ⟨h,g,d,t,os⟩:=by
 obtain⟨bm,N,nm,q',bs,hdct,sn,sub,ab,col,dd,k0,k1,k2,k3,k5,mN,hC,hN,hni,T⟩:=c.obj X
 have hT5:(⟨h,g,d,t,os⟩ : Shared).TypeIs (.builtin "object.__class__") "getset_descriptor" := F.typeOf_object_class
 have hob:bm.contains (.type "object")=true:=T.hasType rfl
 have hcB:(Value.ref C::bm).contains (.type (".".intercalate ("object.__class__".cutAt '.').dropLast))=true:=by
  rw[F.owner_object_class,List.contains_cons,hob]; rfl
 refine codeAny_call_builtin F.slot_gs_get.plain F.entry_gs_get (F.slot_gs_get.check _ _ _ _ _ _ _ _ hT5 (F.args_gs_get _ _ _) ?_)
 repeat (any_goals (first | assumption | (with_reducible refine wpAny_loadPart_at hx ?_; rw[hc]) | (with_reducible refine wpAny_isSubtype_exc hC ?_; rw[hcB]) | wp_step))
 refine⟨Code.quiet_builtin _ (by decide +kernel),codeAny_builtin F.entry_object_class ?_⟩
 repeat (any_goals (first | assumption | (with_reducible refine wpAny_loadPart_at hx ?_; rw[hc]) | wp_step))
theorem xc_entry {tk:Tok} {Q:Fin->Shared->Prop} (X:K.In h) (c:XCls K C) (xa:XAttr K C) (hx:h.get? a=some o) (hc:o.cls=.ref C) (hq:Q (.done (.ret (.ref C))) ⟨h,g,d,t,os⟩) :
  wpAny (model prog w) A (Builtin.«object.__getattribute__» ⟨[.ref a,.str "__class__" tk],[]⟩) Q E ⟨h,g,d,t,os⟩:=by
 have hT5:(⟨h,g,d,t,os⟩ : Shared).TypeIs (.builtin "object.__class__") "getset_descriptor" := F.typeOf_object_class
 have f5:=F.typeOf_object_class
 have f6:=F.slot_gs_get.lookup
 have f7:=F.slot_gs_set.lookup
 have lk:∀ (E':Value->Shared->Prop) (Q':Option Value->Shared->Prop),Q' (some (.builtin "object.__class__")) ⟨h,g,d,t,os⟩->wpAny (model prog w) A (typeLookup (.ref C) "__class__") Q' E' ⟨h,g,d,t,os⟩:=fun E' Q' q=>(PySem.W.looks_findIn (M:=model prog w) X xa.cls) _ _ _ _ (fun _ _ e=>e) q
 repeat (any_goals (first | assumption | (with_reducible refine wpAny_loadPart_at hx ?_; rw[hc]) | (with_reducible refine lk _ _ ?_) | wp_step))
 refine xc_get X c hx hc ?_
 repeat (any_goals (first | assumption | wp_step))
theorem xc_check {M:Model} {nameV:Value} {Q:Unit->Shared->Prop} (X:K.In h) (c:XCls K C) (hx:h.get? a=some o) (hc:o.cls=.ref C) (hq:Q () ⟨h,g,d,t,os⟩):wpAny M A (checkBuiltinCall "BaseException.__getattribute__" ⟨[.ref a,nameV],[]⟩) Q E ⟨h,g,d,t,os⟩:=by
 obtain⟨bm,N,nm,q',bs,hdct,sn,sub,ab,col,dd,k0,k1,k2,k3,k5,mN,hC,hN,hni,T⟩:=c.obj X
 have hk:builtinKind "BaseException.__getattribute__" = some .slot:=by decide +kernel
 have hsplit:splitId "BaseException.__getattribute__" = some ("BaseException", "__getattribute__"):=by decide +kernel
 have hb:bm.contains (.type "BaseException")=true:=T.hasType rfl
 have hcB:(Value.ref C::bm).contains (.type "BaseException")=true:=by rw[List.contains_cons,hb]; rfl
 have ha:=F.args_bexc_ga (.ref a) nameV
 simp only[checkBuiltinCall,hk,hsplit]
 refine wpAny_bind ?_
 unfold isInstance
 repeat (first | (with_reducible refine wpAny_loadPart_at hx ?_; rw[hc]) | (with_reducible refine wpAny_isSubtype_exc hC ?_; rw[hcB]) | wp_step)
 exact hq
theorem xc_attr {Q:Option Value->Shared->Prop} (FA:ExcAttrBase "ValueError" bmV) (X:K.In h) (c:XCls K C) (xa:XAttr K C) (hx:h.get? a=some o) (hc:o.cls=.ref C) (hq:Q (some (.ref C)) ⟨h,g,d,t+1,os⟩) :
  wpAny (model prog w) A (getAttr? (.ref a) "__class__") Q E ⟨h,g,d,t,os⟩:=by
 have f3:=FA.ga.bind (.ref a)
 have lk:∀ (tt:Nat) (A':Around) (E':Value->Shared->Prop) (Q':Option Value->Shared->Prop),Q' (some (.builtin "BaseException.__getattribute__")) ⟨h,g,d,tt,os⟩->wpAny (model prog w) A' (typeLookup (.ref C) "__getattribute__") Q' E' ⟨h,g,d,tt,os⟩:=fun tt A' E' Q' q=>(PySem.W.looks_findIn (M:=model prog w) X xa.ga) _ _ _ _ (fun _ _ e=>e) q
 have lk2:∀ (tt:Nat) (A':Around) (E':Value->Shared->Prop) (Q':Option Value->Shared->Prop),Q' none ⟨h,g,d,tt,os⟩->wpAny (model prog w) A' (typeLookup (.ref C) "__getattr__") Q' E' ⟨h,g,d,tt,os⟩:=fun tt A' E' Q' q=>(PySem.W.looks_findIn (M:=model prog w) X xa.nga) _ _ _ _ (fun _ _ e=>e) q
 have hx2:(Value.builtin "BaseException.__getattribute__" == Value.builtin "object.__getattribute__")=false:=by decide +kernel
 have call:∀ (tt:Nat) (tk:Tok) (A':Around) (R:Result->Shared->Prop),R (.ok (.ret (.ref C))) ⟨h,g,d,tt,os⟩->codeAny (model prog w) A' (.call (.builtin "BaseException.__getattribute__") ⟨[.ref a,.str "__class__" tk],[]⟩) R ⟨h,g,d,tt,os⟩:=fun tt tk A' R q=>
  codeAny_call_builtin FA.ga.plain F.entry_bexc_ga (xc_check X c hx hc (xc_entry X c xa hx hc q))
 unfold getAttr? getAttrBy?
 repeat (any_goals (first | assumption | (with_reducible refine wpAny_loadPart_at hx ?_; rw[hc]) | (with_reducible refine lk _ _ _ _ ?_) | (with_reducible refine lk2 _ _ _ _ ?_) | wp_step))
 refine call _ _ _ _ ?_
 show wpAny _ _ (handedOut (.ref C)) _ _ _
 repeat (any_goals (first | assumption | wp_step))
theorem kitx_exc {x:Addr} (FA:ExcAttrBase "ValueError" bmV) (c:XCls K C) (xa:XAttr K C):PySem.W.KitX K (.ref x) (.ref C) (fun h=>∃ o,h.get? x=some o/\o.cls=.ref C) where
 ty:=fun M h _ ⟨o,h1,h2⟩=>h2 ▸ (PySem.W.Looks.ld h1).andThen .now
 it:=fun _ h X _=>by
  obtain⟨bm,N,nm,q',bs,hdct,sn,sub,ab,col,dd,k0,k1,k2,k3,k5,mN,hC,hN,hni,T⟩:=c.obj X
  intro A' Q' E' s' k q
  unfold isType loadHead
  exact wpAny_bind (wpAny_loadPart (k _ _ hC) (wpAny_pure q))
 ne:=fun h tp dd its n sl X htp=>by
  obtain⟨bm,N,nm,q',bs,hdct,sn,sub,ab,col,dd,k0,k1,k2,k3,k5,mN,hC,hN,hni,T⟩:=c.obj X
  refine Bool.eq_false_iff.mpr fun q=>?_
  have e:C=tp:=Value.ref.inj (beq_iff_eq.mp q)
  subst e
  have z:=congrArg Obj.cls (Option.some.inj (hC.symm.trans htp))
  injection z with z
  exact absurd z (by decide)
 ca:=fun {prog w A E Q s} X ⟨o,h1,h2⟩ k=>by
  obtain⟨h,g,d,tk,os⟩:=s
  exact xc_attr FA X c xa h1 h2 k
end
end L3
namespace L3
open PySem PySem.Spec PyProof.Rows L2
def exH (x C:Addr):HO:=.ext fun h=>∃ o,h.get? x=some o/\o.cls=.ref C
theorem exH_ok {P:Program} {w:World} {H:Hp} {h:Heap} {x C:Addr} {o:Obj} (h1:h.get? x=some o) (h2:o.cls=.ref C):ObjOk P w H h x (exH x C):=
 ⟨⟨o,h1,h2⟩,⟨o,h1⟩,fun _ _ ⟨o',e1,e2⟩ k=>⟨o',k _ e1,e2⟩⟩
theorem call_isinstX {X:Cx} {v:V} {c:Value} (rc:RelV v c) (hc:∀ u,RelV v u->u=c):CallR X (.builtin "isinstance") (fun xs H Q=>∃ x C b,xs=[.ref x,v]/\H x=some (exH x C)/\XCls X.K C/\XAttr X.K C/\PySem.W.kitOne X.K (.ref C) c=some b/\Q (.bl b) H):=by
 intro pins s σ H xs us Q I r h
 obtain⟨x,C,b,rfl,hx,c1,c2,e,q⟩:=h
 obtain⟨u,w',rfl,r1,r2⟩:=vals2 r
 cases (show u=Value.ref x from r1)
 have e2:=hc _ r2
 subst e2
 obtain⟨p,_⟩:=(show ObjOk X.prog X.w H s.heap x (exH x C) from I.hok x _ hx)
 exact PySem.W.kia_one (kitx_exc PySem.F.attrBase_ValueError c1 c2) I.kIn p e (fun z=>nomatch z) fun tk=>⟨.bl b,H,I.tok _,rfl,q⟩
abbrev Cx.hand (X:Cx) (x:Addr):Cx:={ X with A:=X.A.mark (some (.ref x)),calm:=false,xe:=fun _ _=>False }
def tryE (K:PySem.W.Frag) (D:Addr) (i:Nat) (n:Nat) (th:TS) (De:Ends):XK:=fun c _ H=>∃ C,c=.ref C/\XCls K C/\XAttr K C/\Under K C D/\∀ (σ:L2.St) (x:Addr),σ.length=n->H x=none ->
 th { nx:=fun σ' H'=>De.nx (σ'.set i none) H',rt:=De.rt } (σ.set i (some (.ref x))) (upd H x (exH x C))
section
variable {X:Cx}
theorem Inv.toHand {pins:List (Addr×Obj)} {σ:L2.St} {H:Hp} {s:Shared} (x:Addr) (I:Inv X pins σ H s):Inv (Cx.hand X x) pins σ H s:=
 ⟨⟨I.ok.mod,I.ok.kind,I.ok.glob,I.ok.blt,I.ok.above,I.ok.inj,I.ok.has,I.ok.cab,fun z=>(nomatch z),I.ok.frames,I.ok.stk,I.ok.exf,I.ok.bs,I.ok.bsz,I.ok.noex,I.ok.exfs,I.ok.funs,I.ok.frf⟩,I.os,I.bare,I.base,I.loc,I.cell,I.free,I.freeC,I.pin,I.hok,I.len⟩
theorem Inv.ofHand {pins:List (Addr×Obj)} {σ:L2.St} {H:Hp} {s:Shared} {x:Addr} (ok:X.Ok) (I:Inv (Cx.hand X x) pins σ H s):Inv X pins σ H s:=
 ⟨ok,I.os,I.bare,I.base,I.loc,I.cell,I.free,I.freeC,I.pin,I.hok,I.len⟩
end
section
variable {X:Cx} {body suite:List Stmt} {b₀:Stmt} {cn n:Str} {D:Addr} {i:Nat} {p hpos pos:Pos} {tb:Ends->TS} {th:TS}
abbrev xeTry (X:Cx) (hs:List ExceptHandler) (pins:List (Addr×Obj)) (De:Ends):Value->Shared->Prop:=fun e s₁=>
 wpAny (model X.prog X.w) X.A (noteFrame e X.env) (fun _ s₂=>wpAny (model X.prog X.w) X.A (setFlight e none) (fun _ s₃=>wpAny (model X.prog X.w) X.A (handleBy e X.env hs) (SP X pins De) X.xe s₃) X.xe s₂) X.xe s₁
theorem handled {pins:List (Addr×Obj)} {σ:L2.St} {H:Hp} {s:Shared} {De:Ends} {x T C:Addr} (hstk:X.stack=X.env::X.outer) (hfr:X.env.frame=some X.env.locals) (hnoex:X.ex=[]) (hN:X.N.Nodup) (hi:X.N[i]?=some n) (hx:X.env.scope.names.lookup n=some .local)
  (hg:Gl X cn) (hm:X.mg cn=some (.ref D)) (cD:XCls X.K D) (hh:∀ y,PSs (Cx.hand X y) (b₀::suite) th) (hd:(cn == ("__debug__" : Str))=false)
  (I:Inv X pins σ H s) (F:FlyAt s.heap x T (.ref C) .none) (g1:H x=none) (g2:H T=none) (n1:∀ b,(b=x\/b=T)->X.s₀.heap.get? b=none) (n2:∀ b,(b=x\/b=T)->b≠X.env.locals/\(∀ y c,X.env.cells.lookup y=some c->c≠b)/\∀ p∈X.pn++pins,p.1≠b)
  (q:tryE X.K D i X.N.length th De (.ref C) none H):xeTry X [.ExceptHandler (some (.Name cn p)) (some n) (b₀::suite) hpos] pins De (.ref x) s:=by
 obtain⟨C',e,cC,aC,un,q⟩:=q
 cases e
 have fr:X.A.frames=some (X.env::X.outer):=by rw[<-hstk]; exact I.ok.frames
 have st:s.heap.FunFrames X.base (X.env::X.outer):=by rw[<-hstk]; exact I.stack
 have iσ:i<X.N.length:=(List.getElem?_eq_some_iff.mp hi).1
 have go:∀ {s1:Shared} {h2:Heap} {ch:List Addr},Inv X pins σ H s1->Chg (frs X.stack) ch s1.heap h2->(∀ b∈ch,H b=none/\X.s₀.heap.get? b=none/\b≠X.env.locals/\(∀ y c,X.env.cells.lookup y=some c->c≠b)/\∀ p∈X.pn++pins,p.1≠b)->Inv X pins σ H { s1 with heap:=h2 }:=fun {s1 h2 ch} I1 c hc=>by
  have fs:frs X.stack=X.env.locals::frs X.outer:=by rw[hstk]; show (X.env::X.outer).filterMap (·.frame)=_; rw[List.filterMap_cons,hfr]; rfl
  rw[fs] at c
  obtain⟨m,hn,hl⟩:=id I1.loc
  have nch:X.env.locals∉ch:=fun z=>(hc _ z).2.2.1 rfl
  have keepNs:h2.Ns X.env.locals m:=by
   obtain⟨o,es,ep,ho,r⟩:=hn
   obtain⟨sl,e⟩:=c.slot _ o ho nch
   exact⟨_,es,ep,e,r⟩
  have keepCell:∀ y cc v,X.env.cells.lookup y=some cc->s1.heap.IsCell cc v->h2.IsCell cc v:=fun y cc v e z=>by
   obtain⟨o,ho,hd⟩:=z
   obtain⟨sl,e2⟩:=c.slot _ o ho (fun z=>(hc _ z).2.2.2.1 y cc e rfl)
   exact⟨_,e2,hd⟩
  refine⟨I1.ok,I1.os,I1.bare,Un.chg (L:=X.env.locals) (by rw[<-hnoex]; exact I1.base) c ?_ (fun b hb=>(hc b hb).2.1) |> fun u=>by rw[hnoex]; exact u,⟨m,keepNs,fun j y v e1 e2 e3=>?_⟩,fun y cc e=>?_,I1.free,I1.freeC,fun p hp=>?_,HOk.chg I1.hok c (fun b hb=>?_) (fun b hb=>(hc b hb).1),I1.len⟩
  ·cases e:X.s₀.heap.get? X.env.locals with
   | none=>rfl
   | some o=>exact absurd (Heap.lt_size e) (Nat.not_lt.mpr I1.ok.above)
  ·obtain⟨u,r,l⟩:=hl j y v e1 e2 e3
   refine⟨u,r,?_⟩
   rcases l with l | ⟨k,cc,e,z⟩
   ·exact .inl l
   ·exact .inr ⟨k,cc,e,keepCell y cc _ e z⟩
  ·obtain⟨v,z⟩:=I1.cell y cc e
   exact⟨v,keepCell y cc _ e z⟩
  ·obtain⟨e,n,ne,nf,d⟩:=I1.pin p hp
   exact⟨c.keep _ _ e (fun z=>(List.mem_cons.mp z).elim ne nf) (fun z=>(hc _ z).2.2.2.2 p hp rfl),n,ne,nf,d⟩
  ·have:=I1.stkFree b (by rw[fs]; exact hb)
   exact this
 refine wp_note fr st hfr F fun h1 T1 c1 z1 F1=>?_
 have new1:∀ {s1:Shared} {b:Addr},Inv X pins σ H s1->s1.heap.objs.size<=b->H b=none/\X.s₀.heap.get? b=none/\b≠X.env.locals/\(∀ y c,X.env.cells.lookup y=some c->c≠b)/\∀ p∈X.pn++pins,p.1≠b:=fun {s1 b} I1 hb=>by
  have f:=I1.fpOk hb (I1.hok.fresh hb)
  refine⟨f.1,?_,f.2.1,f.2.2.2.2.1,f.2.2.2.2.2⟩
  cases e:X.s₀.heap.get? b with
  | none=>rfl
  | some o=>exact absurd (Heap.lt_size e) (Nat.not_lt.mpr (Nat.le_trans I1.sz hb))
 have fx:H x=none/\X.s₀.heap.get? x=none/\x≠X.env.locals/\(∀ y c,X.env.cells.lookup y=some c->c≠x)/\∀ p∈X.pn++pins,p.1≠x:=⟨g1,n1 x (.inl rfl),n2 x (.inl rfl)⟩
 have fT:H T=none/\X.s₀.heap.get? T=none/\T≠X.env.locals/\(∀ y c,X.env.cells.lookup y=some c->c≠T)/\∀ p∈X.pn++pins,p.1≠T:=⟨g2,n1 T (.inr rfl),n2 T (.inr rfl)⟩
 have I1:Inv X pins σ H { s with heap:=h1 }:=go I (by rw[hstk]; exact c1) (fun b hb=>by
  simp at hb
  rcases hb with rfl | rfl
  ·exact fx
  ·exact fT)
 have fT1:=new1 I z1
 refine wp_flight (s:={ s with heap:=h1 }) F1 fun h2 c2 F2=>?_
 have I2:Inv X pins σ H { s with heap:=h2 }:=go (s1:={ s with heap:=h1 }) I1 (ch:=[T1]) ⟨fun b o e _ hc=>c2.keep b o e (by simp) hc,c2.slot,c2.size⟩ (fun b hb=>by simp at hb; rw[hb]; exact fT1)
 refine wpAny_handleBy_cons (codeAny_handlers_test ?_) (by intro z; cases z)
 have J2:=Inv.toHand x I2
 refine ld_glob (X:=Cx.hand X x) J2 hg hm ?_ hd
 obtain⟨oe,vs,oT,ts,k1,k2,k3,k4,k5,k6,k7,k8⟩:=id F2
 refine exc_matches I2.kIn k1 k2 cD un ?_
 refine codeAny_handlers_suite_as (wp_flight (s:={ s with heap:=h2 }) F2 fun h3 c3 F3=>?_)
 have I3:Inv X pins σ H { s with heap:=h3 }:=go (s1:={ s with heap:=h2 }) I2 (ch:=[T1]) ⟨fun b o e _ hc=>c3.keep b o e (by simp) hc,c3.slot,c3.size⟩ (fun b hb=>by simp at hb; rw[hb]; exact fT1)
 obtain⟨oe3,vs3,oT3,ts3,m1,m2,m3,m4,m5,m6,m7,m8⟩:=id F3
 have I4:Inv X pins σ (upd H x (exH x C)) { s with heap:=h3 }:=Inv.take I3 g1 fx.2.1 fx.2.2.1 fx.2.2.2.1 fx.2.2.2.2 (exH_ok m1 m2)
 refine store_ok (v:=.ref x) I4 hN hi (.inl hx) rfl (fun s5 I5=>?_) (.inr hx)
 have ok5:=I5.ok
 refine wpAny_mono (hh x pins s5 _ _ { nx:=fun σ' H'=>De.nx (σ'.set i none) H',rt:=De.rt } (Inv.toHand x I5) (q σ x I.len g1)) (fun fl s6 h6=>?_) fun e6 s6 h6=>h6.elim
 have unb:∀ {σ':L2.St} {H':Hp},Inv X pins σ' H' s6->∀ R:L2.St->Shared->Prop,(∀ s7,Inv X pins (σ'.set i none) H' s7->R (σ'.set i none) s7)->wpAny (model X.prog X.w) X.A (do bindName X.env n .none; unbindBehindTheSuite X.env n hpos) (fun _ s7=>R (σ'.set i none) s7) X.xe s6:=fun {σ' H'} I6 R hR=>by
  refine wpAny_bind (wpAny_bindName (store_ok (v:=.non) I6 hN hi (.inl hx) rfl (fun s7 I7=>?_) (.inr hx)))
  refine wpAny_onRaise (unbind_ok (v:=.non) I7 hN hi hx (by rw[List.getElem?_set_self (by rw[I6.len]; exact iσ)]) fun s8 I8=>?_)
  rw[List.set_set] at I8
  exact hR s8 I8
 cases fl with
 | next=>
  obtain⟨σ',H',I6,q6⟩:=h6
  exact wpAny_mono (unb (Inv.ofHand ok5 I6) (fun σ'' s7=>Inv X pins σ'' H' s7/\De.nx σ'' H') fun s7 I7=>⟨I7,q6⟩) (fun _ s7 ⟨I7,q7⟩=>⟨_,_,I7,q7⟩) fun _ _ z=>z
 | ret u=>
  obtain⟨v,σ',H',I6,r6,q6⟩:=h6
  exact wpAny_mono (unb (Inv.ofHand ok5 I6) (fun σ'' s7=>Inv X pins σ'' H' s7) fun s7 I7=>I7) (fun _ s7 I7=>⟨v,_,_,I7,r6,q6⟩) fun _ _ z=>z
 | brk=>
  obtain⟨σ',H',I6,q6⟩:=h6
  exact q6.elim
 | cont=>
  obtain⟨σ',H',I6,q6⟩:=h6
  exact q6.elim
end
end L3
namespace L3
open PySem PySem.Spec PyProof.Rows L2
abbrev Cx.tried (X:Cx) (hs:List ExceptHandler) (pins:List (Addr×Obj)) (De:Ends):Cx:={ X with pn:=X.pn++pins,xe:=xeTry X hs pins De }
section
variable {X:Cx} {hs:List ExceptHandler} {pins:List (Addr×Obj)} {De:Ends} {σ:L2.St} {H:Hp} {s:Shared}
theorem Inv.tried (I:Inv X pins σ H s):Inv (Cx.tried X hs pins De) [] σ H s:=
 ⟨⟨I.ok.mod,I.ok.kind,I.ok.glob,I.ok.blt,I.ok.above,I.ok.inj,I.ok.has,I.ok.cab,I.ok.hd,I.ok.frames,I.ok.stk,I.ok.exf,I.ok.bs,I.ok.bsz,I.ok.noex,I.ok.exfs,I.ok.funs,I.ok.frf⟩,I.os,I.bare,I.base,I.loc,I.cell,I.free,I.freeC,fun p hp=>I.pin p (by simpa using hp),I.hok,I.len⟩
theorem Inv.untried {p2:List (Addr×Obj)} (I:Inv (Cx.tried X hs pins De) p2 σ H s):Inv X pins σ H s:=
 ⟨⟨I.ok.mod,I.ok.kind,I.ok.glob,I.ok.blt,I.ok.above,I.ok.inj,I.ok.has,I.ok.cab,I.ok.hd,I.ok.frames,I.ok.stk,I.ok.exf,I.ok.bs,I.ok.bsz,I.ok.noex,I.ok.exfs,I.ok.funs,I.ok.frf⟩,I.os,I.bare,I.base,I.loc,I.cell,I.free,I.freeC,fun p hp=>I.pin p (by
  show p∈(X.pn++pins)++p2
  exact List.mem_append_left _ hp),I.hok,I.len⟩
end
section
variable {X:Cx} {body suite:List Stmt} {b₀:Stmt} {cn n:Str} {D:Addr} {i:Nat} {p hpos pos:Pos} {tb:Ends->TS} {th:TS}
structure Framed (X:Cx):Prop where
 stk:X.stack=X.env::X.outer
 fr:X.env.frame=some X.env.locals
 ex:X.ex=[]
theorem pass_try {pins:List (Addr×Obj)} {De:Ends} (f:Framed X) (hN:X.N.Nodup) (hi:X.N[i]?=some n) (hx:X.env.scope.names.lookup n=some .local) (hg:Gl X cn) (hm:X.mg cn=some (.ref D)) (cD:XCls X.K D) (hh:∀ y,PSs (Cx.hand X y) (b₀::suite) th)
  (hd:(cn == ("__debug__" : Str))=false:=by decide):Passes (CXE X.prog X.w) (Cx.tried X [.ExceptHandler (some (.Name cn p)) (some n) (b₀::suite) hpos] pins De) (tryE X.K D i X.N.length th De):=by
 intro p2 σ H s e s' I h
 obtain⟨x,C,T,H',rfl,I',F,g1,g2,n1,n2,q⟩:=Inv.raised I h
 have gone:∀ b,(b=x\/b=T)->s.heap.get? b=none:=fun b hb=>by rcases hb with rfl | rfl <;> assumption
 have J:Inv X pins σ H s:=Inv.untried I
 refine handled f.stk f.fr f.ex hN hi hx hg hm cD hh hd (Inv.untried I') F g1 g2 (fun b hb=>?_) (fun b hb=>⟨?_,fun y c e z=>?_,fun p hp z=>?_⟩) q
 ·cases e:X.s₀.heap.get? b with
  | none=>rfl
  | some o=>
   obtain⟨o',e'⟩:=J.base.there b o e (by rw[f.ex]; simp)
   rw[gone b hb] at e'; cases e'
 ·rintro rfl
  obtain⟨m,⟨o,es,ep,ho,_⟩,_⟩:=J.loc
  rw[gone _ hb] at ho; cases ho
 ·obtain⟨v,o,ho,_⟩:=J.cell y c e
  rw[z,gone b hb] at ho; cases ho
 ·have:=(J.pin p hp).1
  rw[z,gone b hb] at this; cases this
def sTry (tb:Ends->TS):TS:=fun De σ H=>tb De De σ H
theorem ps_try (hb:∀ pins De,PSs (Cx.tried X [.ExceptHandler (some (.Name cn p)) (some n) (b₀::suite) hpos] pins De) body (tb De)):PS X (.Try body [.ExceptHandler (some (.Name cn p)) (some n) (b₀::suite) hpos] [] [] pos) (sTry tb):=by
 intro pins s σ H De I h
 refine wpAny_Try_except (wpAny_mono (hb pins De [] s σ H De (Inv.tried I) h) (fun fl s1 h1=>?_) fun e s1 h1=>h1)
 have cv:∀ {σ':L2.St} {H':Hp},Inv (Cx.tried X [.ExceptHandler (some (.Name cn p)) (some n) (b₀::suite) hpos] pins De) [] σ' H' s1->Inv X pins σ' H' s1:=fun I'=>Inv.untried I'
 cases fl with
 | next=>
  obtain⟨σ',H',I',q'⟩:=h1
  exact wpAny_execs_nil ⟨σ',H',cv I',q'⟩
 | brk=>
  obtain⟨σ',H',I',q'⟩:=h1
  exact⟨σ',H',cv I',q'⟩
 | cont=>
  obtain⟨σ',H',I',q'⟩:=h1
  exact⟨σ',H',cv I',q'⟩
 | ret u=>
  obtain⟨v,σ',H',I',r',q'⟩:=h1
  exact⟨v,σ',H',cv I',r',q'⟩
theorem Fun.okE {P:Program} {w:World} {K:PySem.W.Frag} {mg:Str->Option Value} {base:Heap} {x qual:Str} {st:Stmt} {f:Addr} {fd:FuncData} {N ps:List Str} {k:Nat} {sp:Sp} (F:Fun K x qual st f fd) (S:FnScope N ps (defScope st)) (len:∀ vs H Q E,sp vs H Q E->vs.length=ps.length)
  (hbody:∀ (cdv:Value) (A:Around) (outer:List Env) (s:Shared) (H:Hp) (vs:List V) (Q:VK) (E:XK),Room k (A.deeper (envOfC qual (defScope st) s.heap.objs.size f cdv))->sp vs H Q E ->
   ∃ t,PSs (cxE P w K mg base N qual (defScope st) f cdv A outer s H E) (defBody st) t/\t { nx:=fun _ H'=>Q .non H',rt:=Q } (start N vs) H):FnOk P w K mg base (CXE P w) (k+1) f fd ps sp:=by
 obtain⟨oc,od,kV,doc,pm,an,cdv,ct,osl,rfl,lk,hcd⟩:=F.ex
 exact fn_of lk hcd S len fun A outer s H vs Q E hr hsp=>hbody cdv A outer s H vs Q E hr hsp
theorem FnOk.to0 {P:Program} {w:World} {K:PySem.W.Frag} {mg:Str->Option Value} {base:Heap} {k:Nat} {f:Addr} {fd:FuncData} {ps:List Str} {sp:Sp} (F:FnOk P w K mg base (CXE P w) k f fd ps sp) (sp0:Sp) (h0:∀ vs H Q E,sp0 vs H Q E->sp vs H Q E0):FnOk P w K mg base CX0 k f fd ps sp0:=
 ⟨fun vs H Q E h=>F.len vs H Q E0 (h0 _ _ _ _ h),fun A outer s H args us vs Q E hr he hb hv hs=>codeAny_mono (F.run A outer s H args us vs Q E0 hr he hb hv (h0 _ _ _ _ hs)) fun r s' h=>by
  cases r with
  | ok fl=>cases fl <;> exact h
  | error e=>
   obtain⟨x,C,T,H',_,_,_,_,_,_,_,_,_,_,q⟩:=h
   exact False.elim q⟩
end
end L3
namespace L3
open PySem PySem.Spec PyProof.Rows L2
section
variable {X:Cx} {body suite:List Stmt} {b₀:Stmt} {cn:Str} {D:Addr} {p hpos pos:Pos} {tb:Ends->TS} {th:TS}
end
end L3
namespace L3
open PySem PySem.Spec PyProof.Rows L2
theorem eraseIdx_mapT {α β:Type} (f:α->β):∀ (l:List α) (i:Nat),(l.map f).eraseIdx i=(l.eraseIdx i).map f
 | [],_=>rfl
 | _::_,0=>rfl
 | x::r,i+1=>by simp[eraseIdx_mapT f r i]
section
variable {prog:Program} {w:World} {A:Around} {E:Value->Shared->Prop} {s:Shared} {d:Addr} {es:Array DictEntry} {ep:Nat}
theorem raw_len {Q:Value->Shared->Prop} (lo:(d == sysModules)=false) (m:RawD s.heap d es ep) (hz:(es.size:Int)<2 ^ 63) (q:∀ t t',Q (.int es.size t) { s with toks:=t' }):wpAny (model prog w) A (call (.builtin "len") [.ref d]) Q E s:=by
 obtain⟨o,h1,h2,h3⟩:=id m
 refine Calls.call_function_entry kind_len plain_len entry_len (args_len1 _) ?_
 have inner:MeetsIn prog w (Builtin.«dict.__len__» ⟨[.ref d],[]⟩) (fun _ R s'=>s'.heap.get? d=some o/\R (.ok (.ret (.int es.size s'.toks))) { s' with toks:=s'.toks+1 }):=.of_wp fun A R s' ⟨e,h⟩=>by
  show wpAny _ _ (dictSize d >>= _) _ _ s'
  unfold dictSize
  refine wpAny_bind (wpAny_bind (wpAny_dictEntries e h3 (wpAny_pure ?_)))
  refine wpAny_bind (wpAny_pendingCount_other lo (wpAny_ret_mkInt ?_))
  rw[Nat.add_zero]; exact h
 unfold Builtin.«len»
 refine wpAny_bind (m:=oneArg "len" _) (wpAny_pure ?_)
 refine wpAny_bind (m:=callSpecial? (.ref d) (Str.ofString "__len__")) (wpAny_callSpecial?_slot (name:=Str.ofString "__len__") m.typeIs F.slot_dict_len (call_meetsIn F.slot_dict_len m.typeIs F.entry_dict_len (F.args_dict_len_1 _) inner ⟨h1,?_⟩))
 refine wpAny_bind (wpAny_holding (wpAny_pure (wpAny_bind (wpAny_letGo ?_))))
 show wpAny _ _ (if ((es.size:Nat):Int)<0 then _ else _) _ _ _
 rw[if_neg (by omega)]
 show wpAny _ _ (if ((es.size:Nat):Int)≥2 ^ 63 then _ else _) _ _ _
 rw[if_neg (by omega)]
 exact wpAny_bind (wpAny_mkInt (wpAny_pure ⟨_,rfl,q _ _⟩))
variable {K:Type} [DecidableEq K] {knd:HeapKind prog w K} {xs:List (K×Addr×Value)} {k:K} {a:Addr} {v:Value}
theorem take_heap {Q:Option DictEntry->Shared->Prop} (hu:knd.room A) (hkey:knd.is s.heap k a) (hm:s.heap.DictOfH knd d xs) (hz:xs.length<=sizeLine) {j:Nat} {b:Addr} (hj:xs[j]?=some (k,b,v))
  (q:∀ h' e t',e.key=.ref b->e.val=v->h'.DictOfH knd d (xs.eraseIdx j)->Heap.SameBut d s.heap h'->Q (some e) { s with heap:=h',toks:=t' }):wpAny (model prog w) A (Builtin.Dict.takeOut d (.ref a)) Q E s:=by
 obtain⟨o,es,ep,ho,hc,hd,he,his,hn⟩:=hm
 unfold Builtin.Dict.takeOut
 refine wpAny_holding (wpAny_bind (knd.pyHash hu hkey ?_))
 refine wpAny_bind (wpAny_dictFind_heap (s:={ s with toks:=s.toks+knd.draws k }) hu hkey ho hd he his hn (fun hno=>absurd hj (hno _ _)) fun i p hi=>?_)
 have eij:i=j:=idxH_unique hn hi hj
 subst eij
 rw[hi] at hj
 cases hj
 dsimp only
 refine wpAny_bind (wpAny_dictEntries (s:={ s with toks:=s.toks+knd.draws k }) ho hd ?_)
 have ee:es[i]?=some (entryOfKey knd (k,b,v)):=by rw[entry_at he,hi]; rfl
 rw[ee]
 dsimp only
 refine wpAny_bind (wpAny_updateDictKeys (hz:=by have e:=size_of_entries he; omega) (s:={ s with toks:=s.toks+knd.draws k }) ho hd (wpAny_pure (q _ _ _ rfl rfl ⟨_,_,ep+1,Heap.get?_update_self _ ho (Obj.isFreed_of_dict (Obj.data_mapDictKeys hd _)),hc.mapDictKeys _,Obj.data_mapDictKeys hd _,?_,fun x hx=>?_,?_⟩ (Heap.SameBut.update ..))))
 ·obtain⟨l⟩:=es
  have he':l=xs.map (entryOfKey knd):=he
  subst he'
  have hb:i<xs.length:=(List.getElem?_eq_some_iff.mp hi).1
  simp[eraseIdx_mapT]
 ·exact knd.keeps (his x (List.mem_of_mem_eraseIdx hx)) ho hd (Heap.SameBut.update ..)
 ·have sub:((xs.eraseIdx i).map (·.1)).Sublist (xs.map (·.1)):=(List.eraseIdx_sublist _ _).map _
  exact hn.sublist sub
theorem pop_heap {Q:Value->Shared->Prop} (hu:A.units+1<cLine) {knd:HeapKind prog w K} (hroom:knd.room A.in1) (hkey:knd.is s.heap k a) (hm:s.heap.DictOfH knd d xs) (hz:xs.length<=sizeLine) {j:Nat} {b:Addr} (hj:xs[j]?=some (k,b,v))
  (q:∀ h' t',h'.DictOfH knd d (xs.eraseIdx j)->Heap.SameBut d s.heap h'->Q v { s with heap:=h',toks:=t' }):wpAny (model prog w) A (call (.builtin "dict.pop") [.ref d,.ref a]) Q E s:=by
 refine wpAny_call_entry F.slot_dict_pop hm.typeIs F.entry_dict_pop ?_ (F.args_dict_pop_2 _ _)
 unfold Builtin.«dict.pop»
 refine wpAny_bind (wpAny_bind (wpAny_notOrdered_dict hm.typeIs (wpAny_pure ?_)))
 have hne:0<xs.length:=by
  have:=(List.getElem?_eq_some_iff.mp hj).1
  omega
 obtain⟨o,es,ep,ho,hc,hd,he,his,hn⟩:=id hm
 have hes:es.size=xs.length:=size_of_entries he
 dsimp only
 rw[if_neg (by simp[keyPart])]
 refine wpAny_bind (wpAny_dictEntries ho hd ?_)
 refine wpAny_bind (wpAny_pure ?_)
 rw[if_neg (by simp[Array.isEmpty]; intro z; rw[z] at hes; simp at hes; omega)]
 refine wpAny_bind (take_heap hroom hkey hm hz hj fun h' e t' e1 e2 dd hs=>?_)
 simp only[Option.isNone_some,Bool.false_eq_true,if_false]
 subst e2
 exact wpAny_bind (wpAny_letGo (wpAny_pure ⟨_,rfl,q h' t' dd hs⟩))
end
theorem dropK_erase {κ:Type} [DecidableEq κ]:∀ {kvs:List (κ×V)} {j:Nat} {k:κ} {v:V},(kvs.map (·.1)).Nodup->kvs[j]?=some (k,v)->dropK kvs k=kvs.eraseIdx j
 | p::r,0,k,v,nd,h=>by
  simp at h
  subst h
  rw[dropK_pos rfl,dropK_no (by simpa using (List.nodup_cons.mp nd).1)]
  rfl
 | p::r,j+1,k,v,nd,h=>by
  have h':r[j]?=some (k,v):=by simpa using h
  have hm:k∈r.map (·.1):=List.mem_map.mpr ⟨_,List.mem_of_getElem? h',rfl⟩
  have hne:¬ p.1=k:=fun e=>(List.nodup_cons.mp nd).1 (by rw[<-e] at hm; exact hm)
  rw[dropK_neg hne,dropK_erase (List.nodup_cons.mp nd).2 h']
  rfl
theorem valV_get {κ:Type} [DecidableEq κ]:∀ {kvs:List (κ×V)} {k:κ} {v:V},valV kvs k=some v->∃ j:Nat,kvs[j]?=some (k,v)
 | p::r,k,v,h=>by
  by_cases e:p.1=k
  ·rw[valV_pos e] at h
   cases h
   exact⟨0,by simp[<-e]⟩
  ·rw[valV_neg e] at h
   obtain⟨j,hj⟩:=valV_get h
   exact⟨j+1,by simpa using hj⟩
theorem Paired.erase {α β:Type} {F:α->β->Prop}:∀ {l:List α} {m:List β} (j:Nat),Paired F l m->Paired F (l.eraseIdx j) (m.eraseIdx j)
 | _,_,_,.nil=>.nil
 | _,_,0,.cons _ t=>t
 | _,_,j+1,.cons r t=>.cons r (Paired.erase j t)
theorem KT.get {H:Hp}:∀ {kvs:List (List Key×V)} {xs:List (List Key×Addr×Value)} {j:Nat} {k:List Key} {v:V},KT H kvs xs->kvs[j]?=some (k,v)->∃ b u,xs[j]?=some (k,b,u)/\RelV v u
 | _,_,0,k,v,.cons (b:=x) h _,e=>by
  simp at e
  subst e
  have h1:k=x.1:=h.1
  exact⟨x.2.1,x.2.2,by simp[h1],h.2.2⟩
 | _,_,j+1,k,v,.cons h t,e=>by
  obtain⟨b,u,e1,e2⟩:=KT.get t (by simpa using e)
  exact⟨b,u,by simpa using e1,e2⟩
theorem KT.keysEq {H:Hp}:∀ {kvs:List (List Key×V)} {xs:List (List Key×Addr×Value)},KT H kvs xs->kvs.map (·.1)=xs.map (·.1)
 | _,_,.nil=>rfl
 | _,_,.cons h t=>by rw[List.map_cons,List.map_cons,h.1,KT.keysEq t]
section
variable {X:Cx}
theorem call_lenT:CallR X (.builtin "len") (fun xs H Q=>∃ a kvs,xs=[V.ref a]/\H a=some (.dT kvs)/\Q (.int kvs.length) H):=by
 intro pins s σ H xs us Q I r h
 obtain⟨a,kvs,rfl,ha,q⟩:=h
 obtain⟨u,rfl,ru⟩:=vals1 r
 cases ru
 obtain⟨z,lo,xs,rel,o,es,ep,h1,h2,h3,h4,h5,h6⟩:=dt_of I.hok ha
 have hes:es.size=kvs.length:=by rw[size_of_entries h4]; exact (Paired.length rel).symm
 refine raw_len (es:=es) (ep:=ep) lo ⟨o,h1,h2.1,h3⟩ (by rw[hes]; rw[sizeLine_eq] at z; omega) fun t t'=>⟨.int kvs.length,H,I.tok _,?_,q⟩
 rw[hes]; exact⟨t,rfl⟩
def tDPopT (td ty:TE):TE:=fun σ H Q=>td σ H fun x H1=>∃ a,x=.ref a/\IsD H1 a/\ty σ H1 fun y H2=>∃ b kvs k v,y=.ref b/\H2 b=some (.tup (k.map kV))/\H2 a=some (.dT kvs)/\valV kvs k=some v/\Q v (upd H2 a (.dT (dropK kvs k)))
theorem pe_dpopT {o e:Expr} {td ty:TE} {apos cpos:Pos} (hu:X.A.units+1<cLine) (ho:PE X o td) (he:PE X e ty) (m:M1 X o "pop" apos e cpos):PE X (.Call (.Attribute o "pop" apos) [e] [] cpos) (tDPopT td ty):=by
 intro pins s σ H Q I h
 refine wpAny_Call_method m.base m.few m.line PySem.F.plainAttrs_dict PySem.F.slot_dict_pop PySem.F.type_dict_pop (thn (ho pins s σ H _ I h) fun u s1 ⟨x,H1,I1,rx,a,ex,d,q1⟩=>?_)
 subst ex
 obtain rfl:u=Value.ref a:=rx
 obtain⟨t1,t2,_⟩:=isD_at I1 d
 refine⟨t1,t2,?_⟩
 rw[m.trees]
 refine Calls.callWith_builtin rfl (Calls.evalArgs_plain (Calls.spliced_cons (thn (he pins s1 σ H1 _ I1 q1) fun iv s2 ⟨y,H2,I2,ry,b,kvs,k,v,ey,eb,ea,l,q2⟩=>Calls.spliced_nil ?_)))
 subst ey
 obtain rfl:iv=Value.ref b:=ry
 obtain⟨z,lo,xs,rel,dd⟩:=dt_of I2.hok ea
 obtain⟨j,hj⟩:=valV_get l
 obtain⟨b',u',hx,ru⟩:=KT.get rel hj
 have nd:(kvs.map (·.1)).Nodup:=by
  obtain⟨_,_,_,_,_,_,_,_,h6⟩:=id dd
  rw[KT.keysEq rel]; exact h6
 refine pop_heap hu (knd:=tupleKind (mixKind X.prog X.w)) (tupleKind_room_in1 hu) (key_of I2.hok eb) dd (by rw[<-Paired.length rel]; exact z) hx fun h' t' dd' hs=>?_
 obtain⟨q,es,ep,hq,g2,g3,g4,_,g5⟩:=dd'
 have hrel:KT H2 (dropK kvs k) (xs.eraseIdx j):=by
  rw[dropK_erase nd hj]
  exact Paired.erase j rel
 refine⟨v,upd H2 a (.dT (dropK kvs k)),d_write (t':=t') (ob:=.dT (dropK kvs k)) I2 (by rw[ea]; exact True.intro) hs ⟨q,hq⟩ ⟨Nat.le_trans (dropK_le kvs k) z,lo,_,hrel.keeps fun c ys ec=>?_,q,es,ep,hq,g2,g3,g4,g5⟩,ru,q2⟩
 rw[upd_ne (fun e=>by rw[e,ea] at ec; cases ec)]; exact ec
end
end L3
namespace L3
open PySem PySem.Spec PyProof.Rows L2
abbrev tD (t:List Int):PyData:=.tuple (t.map .int)
abbrev tsD (ts:List (List Int)):PyData:=.list (ts.map tD)
def kvT (ts:List (List Int)):List (List Key×V):=ts.map fun t=>(kI t,V.bl true)
theorem kI_inj {a b:List Int} (h:kI a=kI b):a=b:=by
 unfold kI at h
 exact (List.map_inj_right (fun x y e=>Sum.inl.inj e)).mp h
theorem valV_kvT (t:List Int):∀ ts:List (List Int),valV (kvT ts) (kI t)=if t∈ts then some (V.bl true) else none
 | []=>rfl
 | u::r=>by
  by_cases e:u=t
  ·subst e
   rw[if_pos (by simp)]
   exact valV_pos rfl
  ·have:valV (kvT (u::r)) (kI t)=valV (kvT r) (kI t):=valV_neg fun z=>e (kI_inj z)
   rw[this,valV_kvT t r]
   have:(t∈u::r)↔t∈r:=by simp[Ne.symm e]
   simp only[this]
theorem putK_kvT {t:List Int} {ts:List (List Int)} (h:t∉ts):putK (kvT ts) (kI t) (.bl true)=kvT (ts++[t]):=by
 rw[putK_new _ (by rw[valV_kvT,if_neg h])]
 simp[kvT]
theorem dropK_kvT {t:List Int}:∀ {ts:List (List Int)},ts.Nodup->dropK (kvT ts) (kI t)=kvT (ts.erase t)
 | [],_=>rfl
 | u::r,nd=>by
  by_cases e:u=t
  ·subst e
   rw[List.erase_cons_head]
   have h:kvT (u::r)=(kI u,V.bl true)::kvT r:=rfl
   rw[h,dropK_pos rfl]
   exact dropK_no (by
    unfold kvT
    rw[List.map_map]
    intro z
    obtain⟨v,hv,e⟩:=List.mem_map.mp z
    have e':kI v=kI u:=e
    exact (List.nodup_cons.mp nd).1 (kI_inj e' ▸ hv))
  ·rw[List.erase_cons_tail (by simpa using e)]
   have h:kvT (u::r)=(kI u,V.bl true)::kvT r:=rfl
   rw[h,dropK_neg (fun z=>e (kI_inj z)),dropK_kvT (List.nodup_cons.mp nd).2]
   rfl
theorem kvT_keys (ts:List (List Int)):(kvT ts).map (·.1)=ts.map kI:=by simp[kvT]
theorem kvT_len (ts:List (List Int)):(kvT ts).length=ts.length:=by simp[kvT]
theorem perm_sorted:∀ {l m:List (List Int)},l.Perm m->l.Pairwise lxLe->m.Pairwise lxLe->l=m
 | [],m,p,_,_=>by rw[List.Perm.nil_eq p]
 | a::l,[],p,_,_=>by have:=p.length_eq; simp at this
 | a::l,b::m,p,h1,h2=>by
  have ha:a∈b::m:=p.subset (by simp)
  have hb:b∈a::l:=p.symm.subset (by simp)
  have e:a=b:=by
   rcases List.mem_cons.mp ha with e | ha
   ·exact e
   ·rcases List.mem_cons.mp hb with e | hb
    ·exact e.symm
    ·exact Tim.lx_total _ _ ((List.pairwise_cons.mp h2).1 a ha) ((List.pairwise_cons.mp h1).1 b hb)
  subst e
  rw[perm_sorted (List.Perm.cons_inv p) (List.pairwise_cons.mp h1).2 (List.pairwise_cons.mp h2).2]
def SameX (d:Addr) (H H':Hp):Prop:=∀ b o,b≠d->H b=some o->H' b=some o
theorem SameX.of {d:Addr} {H H':Hp} (h:Same H H'):SameX d H H':=fun b o _ e=>h b o e
theorem SameX.trans {d:Addr} {H H1 H2:Hp} (a:SameX d H H1) (b:SameX d H1 H2):SameX d H H2:=fun c o n e=>b c o n (a c o n e)
theorem SameX.upd {d:Addr} {H:Hp} {o:HO}:SameX d H (upd H d o):=fun b u n e=>by rw[upd_ne n]; exact e
structure HallAt (C:Addr) (H:Hp) (h dx c d:Addr) (cols:List Int) (ts:List (List Int)):Prop where
 ob:H h=some (.ins C dx [("colours",.ref c),("door_table",.ref d)])
 cl:H c=some (.lst (cols.map V.int))
 dt:H d=some (.dT (kvT ts))
 nd:ts.Nodup
 th:∀ t∈ts,t.length=3
theorem HallAt.hd {C h dx c d:Addr} {H:Hp} {cols:List Int} {ts:List (List Int)} (a:HallAt C H h dx c d cols ts):h≠d:=ne_of a.ob a.dt (fun e=>by cases e)
theorem HallAt.cd {C h dx c d:Addr} {H:Hp} {cols:List Int} {ts:List (List Int)} (a:HallAt C H h dx c d cols ts):c≠d:=ne_of a.cl a.dt (fun e=>by cases e)
theorem HallAt.same {C h dx c d:Addr} {H H':Hp} {cols:List Int} {ts:List (List Int)} (a:HallAt C H h dx c d cols ts) (s:Same H H'):HallAt C H' h dx c d cols ts:=
 ⟨s _ _ a.ob,s _ _ a.cl,s _ _ a.dt,a.nd,a.th⟩
theorem HallAt.put {C h dx c d:Addr} {H H':Hp} {cols:List Int} {ts ts':List (List Int)} (a:HallAt C H h dx c d cols ts) (s:SameX d H H') (hd:H' d=some (.dT (kvT ts'))) (nd:ts'.Nodup) (th:∀ t∈ts',t.length=3):HallAt C H' h dx c d cols ts':=
 ⟨s _ _ a.hd a.ob,s _ _ a.cd a.cl,hd,nd,th⟩
abbrev Tell (a:Int):Prop:=a.natAbs.log2<1920
theorem tell_of {a:Int} (h1:-10000<a) (h2:a<10000):Tell a:=by
 have:a.natAbs<2 ^ 1920:=Nat.lt_of_lt_of_le (show a.natAbs<10000 by omega) (by decide +kernel)
 by_cases z:a.natAbs=0
 ·show a.natAbs.log2<1920
  rw[z]; decide
 ·exact (Nat.log2_lt z).mpr this
end L3
namespace L3
open PySem PySem.Spec PyProof.Rows L2 Tim
theorem eqvAll_ints:∀ (a b:List Int),PyData.eqvAll (a.map .int) (b.map .int)=decide (a=b)
 | [],[]=>by simp[PyData.eqvAll]
 | [],_::_=>by simp[PyData.eqvAll]
 | _::_,[]=>by simp[PyData.eqvAll]
 | x::a,y::b=>by
  have ih:=eqvAll_ints a b
  by_cases e:x=y
  ·subst e
   simp[PyData.eqvAll,PyData.eqv,ih]
  ·simp[PyData.eqvAll,PyData.eqv,ih,e]
theorem eqv_tD (a b:List Int):PyData.eqv (tD a) (tD b)=decide (a=b):=by
 show PyData.eqv (.tuple _) (.tuple _)=_
 rw[PyData.eqv]; exact eqvAll_ints a b
theorem canAll_ints:∀ ns:List Int,PyData.canLayAll0 (ns.map .int)=true
 | []=>by simp[PyData.canLayAll0]
 | n::r=>by simp[PyData.canLayAll0,PyData.canLay0,canAll_ints r]
theorem can_tD (t:List Int):(tD t).canLay0=true:=by
 show PyData.canLay0 (.tuple _)=true
 rw[PyData.canLay0]; exact canAll_ints t
theorem depAll_ints:∀ ns:List Int,PyData.depthAll (ns.map .int)<=1
 | []=>by simp[PyData.depthAll]
 | n::r=>by have:=depAll_ints r; simp[PyData.depthAll,PyData.depth]; omega
theorem dep_tD (t:List Int):(tD t).depth<=60:=by
 show PyData.depth (.tuple _)<=60
 rw[PyData.depth]
 have:=depAll_ints t
 omega
section
variable {X:Cx} {pins:List (Addr×Obj)} {σ:L2.St} {H:Hp} {s:Shared}
theorem tups_eqAt (I:Inv X pins σ H s) {ts:List (List Int)} {t:List Int} {vs:List V} {its:List Value} {q:Addr} {A:Around} (hu:A.units+60<cLine) (hd:DenL X.K H (ts.map tD) vs) (hv:Vals vs its) (hq:SqT X.K H q (t.map V.int)) :
  (∀ y∈its,SeqAt.EqAt A s y (.ref q) (decide (keyAt s.heap y=some t)))/\its.map (fun y=>decide (keyAt s.heap y=some t))=ts.map (fun x=>decide (x=t)):=by
 induction ts generalizing vs its with
 | nil=>
  have e:vs=[]:=hd
  subst e
  cases hv
  exact⟨fun y hy=>absurd hy (by simp),rfl⟩
 | cons x r ih=>
  obtain⟨v,ws,e,⟨p,ys,e1,e2,e3⟩,e4⟩:=(show ∃ v ws,vs=v::ws/\Den X.K H (tD x) v/\DenL X.K H (r.map tD) ws from hd)
  subst e e1
  cases hv with
  | cons hr hrest=>
   rename_i u us
   obtain rfl:u=Value.ref p:=hr
   obtain⟨i1,i2⟩:=ih e4 hrest
   have e3':=e3.ints
   subst e3'
   have hk:keyAt s.heap (.ref p)=some x:=tup_key (q:=(p,x)) I e2
   obtain⟨as,ra⟩:=Den.reads I (tD x) (.ref p) (.ref p) ⟨p,_,rfl,e2,denL_ints x⟩ rfl
   obtain⟨bs,rb⟩:=Den.reads I (tD t) (.ref q) (.ref q) ⟨q,_,rfl,hq,denL_ints t⟩ rfl
   have hm:min (tD x).depth (tD t).depth<=(tD x).depth:=Nat.min_le_left _ _
   have hdp:=dep_tD x
   have E:=SeqAt.eqAt_reads (tD x) (tD t) A s (.ref p) (.ref q) as bs ra rb (can_tD x) (can_tD t) (by omega)
   rw[eqv_tD] at E
   have hc:decide (keyAt s.heap (.ref p)=some t)=decide (x=t):=by rw[hk]; simp
   refine⟨fun y hy=>?_,by rw[List.map_cons,List.map_cons,i2,hc]⟩
   rcases List.mem_cons.mp hy with rfl | hy
   ·rw[hc]; exact E
   ·exact i1 y hy
theorem any_mem {ts:List (List Int)} {t:List Int} {its:List Value} {h:Heap} (e:its.map (fun y=>decide (keyAt h y=some t))=ts.map (fun x=>decide (x=t))):(its.toArray.any fun y=>decide (keyAt h y=some t))=decide (t∈ts):=by
 have h1:(its.any fun y=>decide (keyAt h y=some t))=(its.map (fun y=>decide (keyAt h y=some t))).any id:=by rw[List.any_map]; rfl
 have h2:(ts.any fun x=>decide (x=t))=(ts.map (fun x=>decide (x=t))).any id:=by rw[List.any_map]; rfl
 rw[List.any_toArray,h1,e,← h2]
 by_cases m:t∈ts
 ·rw[decide_eq_true m]; exact List.any_eq_true.mpr ⟨t,m,by simp⟩
 ·rw[decide_eq_false m]
  exact List.any_eq_false.mpr fun x hx=>by simp; intro z; exact m (z ▸ hx)
end
def rTIn (K:PySem.W.Frag) (neg:Bool):R2:=fun x y H Q=>∃ (q p:Addr) (t:List Int) (ts:List (List Int)) (vs:List V),x=.ref q/\SqT K H q (t.map V.int)/\y=.ref p/\SqL K H p vs/\DenL K H (ts.map tD) vs/\Q (.bl (if neg then !decide (t∈ts) else decide (t∈ts))) H
section
variable {X:Cx}
theorem op_tin (hu:X.A.units+64<cLine):OpR X (compareOp .In) (rTIn X.K false):=by
 intro pins s σ H x y v u Q I rx ry h
 obtain⟨q,p,t,ts,vs,rfl,hq,rfl,hp,hd,k⟩:=h
 obtain rfl:v=Value.ref q:=rx
 obtain rfl:u=Value.ref p:=ry
 obtain⟨its,rv,pl,hz⟩:=I.list hp
 obtain⟨g1,g2⟩:=tups_eqAt (A:=X.A.in1) I (show X.A.units+1+60<cLine by omega) hd rv hq
 refine SeqAt.in_listAt (fun y=>decide (keyAt s.heap y=some t)) pl.isList (fun y hy=>g1 y (by simpa using hy)) ?_
 rw[any_mem g2]
 exact⟨.bl _,H,I,rfl,k⟩
theorem op_tnotin (hu:X.A.units+64<cLine):OpR X (compareOp .NotIn) (rTIn X.K true):=by
 intro pins s σ H x y v u Q I rx ry h
 obtain⟨q,p,t,ts,vs,rfl,hq,rfl,hp,hd,k⟩:=h
 obtain rfl:v=Value.ref q:=rx
 obtain rfl:u=Value.ref p:=ry
 obtain⟨its,rv,pl,hz⟩:=I.list hp
 obtain⟨g1,g2⟩:=tups_eqAt (A:=X.A.in1) I (show X.A.units+1+60<cLine by omega) hd rv hq
 refine SeqAt.notIn_listAt (fun y=>decide (keyAt s.heap y=some t)) pl.isList (fun y hy=>g1 y (by simpa using hy)) ?_
 rw[any_mem g2]
 exact⟨.bl _,H,I,rfl,k⟩
end
end L3
namespace L3
open PySem PySem.Spec PyProof.Rows L2 Tim
open AutoSeq1 (wpAny_loadPart')
open MeetsSeq
theorem rem_at {l:Addr} {its:Array Value} {n:Nat} {x:Value} (e:Value->Bool) {j:Nat} (hj:j<its.size) (hz:its.size<=sizeLine) (yes:e its[j]=true):∀ (k i:Nat),i+k=j->(∀ m (hm:m<its.size),i<=m->m<j->e its[m]=false) ->
  Meets (Builtin.«list.remove.loop» ⟨[.ref l,x,rawInt i],[]⟩) (fun A R s=>s.heap.get? l=some { cls:=.type "list",dict:=none,data:=.seq its n,slots:=#[] }/\(∀ y,y∈its->SeqAt.EqAt A.in1 s y x (e y))/\R (.ok (.ret .none)) { s with heap:=s.heap.update l (Obj.mapSeq fun xs=>xs.eraseIdxIfInBounds j) })
 | 0,i,hk,no=>fun prog w A R s h=>by
  have e0:i=j:=by omega
  subst e0
  obtain⟨hp,g,dr,tk,os⟩:=s
  obtain⟨hl,he,q⟩:=h
  (wp_walk using (wpAny_loadPart' hl))
  have at1:its[((i:Nat):Int).toNat]?=some its[i]:=by rw[Int.toNat_natCast]; exact Array.getElem?_eq_getElem hj
  rw[at1]
  refine wpAny_bind (he its[i] (Array.getElem_mem hj) prog w _ _ ?_)
  rw[yes]
  have le1:(its.eraseIdxIfInBounds i).size<=sizeLine+1:=Nat.le_succ_of_le (Nat.le_trans (size_erased its i) hz)
  (wp_walk using (wpAny_updateSeq hl rfl (hz:=hz) (_hz':=le1)),(wpAny_loadPart' hl))
  simpa only[Int.toNat_natCast] using q
 | k+1,i,hk,no=>fun prog w A R s h=>by
  obtain⟨hp,g,dr,tk,os⟩:=s
  obtain⟨hl,he,q⟩:=h
  have lt:i<its.size:=by omega
  (wp_walk using (wpAny_loadPart' hl))
  have at1:its[((i:Nat):Int).toNat]?=some its[i]:=by rw[Int.toNat_natCast]; exact Array.getElem?_eq_getElem lt
  rw[at1]
  refine wpAny_bind (he its[i] (Array.getElem_mem lt) prog w _ _ ?_)
  rw[no i lt (Nat.le_refl i) (by omega)]
  wp_walk
  rw[show ((i:Int)+1)=((i+1:Nat):Int) from rfl]
  refine⟨plainId_quiet plain_remove_loop _,codeAny_builtin entry_remove_loop ?_⟩
  rw[Around.under_plainId plain_remove_loop]
  exact rem_at e hj hz yes k (i+1) (by omega) (fun m hm h1 h2=>no m hm (by omega) h2) prog w A R _ ⟨hl,he,q⟩
theorem rem_list {l:Addr} {its:Array Value} {n:Nat} {x:Value} (e:Value->Bool) {j:Nat} (hj:j<its.size) (hz:its.size<=sizeLine) (yes:e its[j]=true) (no:∀ m (hm:m<its.size),m<j->e its[m]=false) :
  Meets (Builtin.«list.remove» ⟨[.ref l,x],[]⟩) (fun A R s=>s.heap.get? l=some { cls:=.type "list",dict:=none,data:=.seq its n,slots:=#[] }/\(∀ y,y∈its->SeqAt.EqAt A.in1 s y x (e y))/\R (.ok (.ret .none)) { s with heap:=s.heap.update l (Obj.mapSeq fun xs=>xs.eraseIdxIfInBounds j) }):=fun prog w A R s h=>by
 obtain⟨hp,g,dr,tk,os⟩:=s
 obtain⟨hl,he,q⟩:=h
 (wp_walk using (wpAny_loadPart' hl))
 refine⟨plainId_quiet plain_remove_loop _,codeAny_builtin entry_remove_loop ?_⟩
 rw[Around.under_plainId plain_remove_loop]
 exact rem_at e hj hz yes j 0 (by omega) (fun m hm _ h2=>no m hm h2) prog w A R _ ⟨hl,he,q⟩
def rTRemove (K:PySem.W.Frag):V->List V->Hp->VK->Prop:=fun x as H Q=>∃ (l q:Addr) (t:List Int) (ts:List (List Int)) (vs:List V) (j:Nat),x=.ref l/\as=[.ref q]/\H l=some (.lst vs)/\DenL K H (ts.map tD) vs/\SqT K H q (t.map V.int)/\ts[j]?=some t/\(∀ m,m<j->ts[m]?≠some t)/\Q .non (upd H l (.lst (vs.eraseIdx j)))
section
variable {X:Cx}
theorem mt_tremove (hu:X.A.units+64<cLine):MtM X "list.remove" (rTRemove X.K):=by
 intro pins s σ H x vs v us Q I rx rv h
 obtain⟨l,q,t,ts,ws,j,rfl,rfl,hH,hd,hq,hj,hno,k⟩:=h
 cases rx
 obtain⟨u,rfl,ru⟩:=rv.one
 obtain rfl:u=Value.ref q:=ru
 obtain⟨z,its,n,r,hl,e⟩:=I.lstM hH
 obtain⟨g1,g2⟩:=tups_eqAt (A:=X.A.in1) I (show X.A.units+1+60<cLine by omega) hd r hq
 have il:its.length=ts.length:=by have:=congrArg List.length g2; simpa using this
 have jl:j<ts.length:=(List.getElem?_eq_some_iff.mp hj).1
 have ev:∀ (m:Nat) (hm:m<its.length),decide (keyAt s.heap its[m]=some t)=decide (ts[m]?=some t):=fun m hm=>by
  have:=congrArg (fun l=>l[m]?) g2
  simp only[List.getElem?_map,List.getElem?_eq_getElem hm,List.getElem?_eq_getElem (show m<ts.length by omega),Option.map_some,Option.some.injEq] at this
  rw[this,List.getElem?_eq_getElem (show m<ts.length by omega)]
  simp
 refine call_meets F.slot_list_remove ⟨_,e,rfl⟩ F.entry_list_remove (F.args_list_remove_2 _ _)
  (rem_list (fun y=>decide (keyAt s.heap y=some t)) (j:=j) (by simp; omega) (by simp; omega) ?_ ?_) ⟨e,fun y hy=>g1 y (by simpa using hy),?_⟩
 ·have:=ev j (by omega)
  simp only[List.getElem_toArray]
  rw[this]; simp[hj]
 ·intro m hm h2
  simp only[List.getElem_toArray]
  rw[ev m (by simpa using hm)]
  exact decide_eq_false (hno m h2)
 ·refine⟨.non,_,I.lset (its':=its.eraseIdx j) hH e ?_ (r.eraseIdx j) ?_,rfl,k⟩
  ·show its.toArray.eraseIdxIfInBounds j=(its.eraseIdx j).toArray
   rw[List.eraseIdxIfInBounds_toArray]
  ·have:=len_erase ws j
   omega
end
end L3
namespace L3
open PySem PySem.Spec PyProof.Rows L2
end L3
namespace L3
open PySem PySem.Spec PyProof.Rows L2
section
variable {X:Cx} {o e f:Expr} {td ty tx:TE} {apos cpos:Pos}
end
section
variable {X:Cx} {pins:List (Addr×Obj)} {σ:L2.St} {H:Hp} {s:Shared} {h':Heap}
end
end L3
namespace L3
open PySem PySem.Spec PyProof.Rows L2
section
variable {prog:Program} {w:World} {A:Around} {E:Value->Shared->Prop} {s:Shared} {d:Addr} {K:Type} [DecidableEq K] {knd:HeapKind prog w K} {xs:List (K×Addr×Value)} {k:K} {a:Addr} {v:Value}
end
section
variable {X:Cx} {o e f:Expr} {td ty tx:TE} {apos cpos:Pos}
end
section
variable {X:Cx}
end
end L3
namespace STb
open PySem
def sm:Nat->Nat
 | 0=>0
 | d+1=>5*sm d+1
theorem sm_pow (d:Nat):4*sm d+1=5 ^ d:=by
 induction d with
 | zero=>rfl
 | succ d ih=>rw[sm,Nat.pow_succ]; omega
theorem sm_two (d:Nat):sm (2*d)=sm d*(5 ^ d+1):=by
 have h1:=sm_pow (2*d)
 have h2:=sm_pow d
 have h3:5 ^ (2*d)=5 ^ d*5 ^ d:=by rw[Nat.two_mul,Nat.pow_add]
 rw[h3,← h2] at h1
 rw[<-h2]
 generalize sm d=x at *
 have e2:x*(4*x+1+1)=4*(x*x)+2*x:=by
  rw[Nat.mul_add,Nat.mul_add,Nat.mul_one,Nat.mul_left_comm]; omega
 have e1:(4*x+1)*(4*x+1)=4*(4*(x*x))+8*x+1:=by
  rw[Nat.mul_add,Nat.mul_one,Nat.add_mul,Nat.one_mul,Nat.mul_assoc,Nat.mul_left_comm x 4 x]; omega
 rw[e2]
 rw[e1] at h1
 omega
theorem sm_odd (d:Nat):sm (2*d+1) % 2=1:=by
 rw[sm,sm_two]
 have h2:=sm_pow d
 have:(sm d*(5 ^ d+1)) % 2=0:=by
  rw[Nat.mul_mod,show (5 ^ d+1) % 2=0 by omega,Nat.mul_zero]
 omega
theorem sm_div:∀ (k d:Nat),2 ^ k ∣ sm d->2 ^ k ∣ d
 | 0,d,_=>by simp
 | k+1,d,h=>by
  rcases Nat.mod_two_eq_zero_or_one d with e | e
  ·obtain⟨q,rfl⟩ : ∃ q,d=2*q:=⟨d/2,by omega⟩
   rw[sm_two] at h
   have h2:=sm_pow q
   obtain⟨r,hr⟩ : ∃ r,5 ^ q+1=2*(2*r+1):=⟨sm q,by omega⟩
   rw[hr,Nat.mul_left_comm,Nat.pow_succ,Nat.mul_comm (2 ^ k) 2] at h
   have h3:2 ^ k ∣ sm q*(2*r+1):=Nat.dvd_of_mul_dvd_mul_left (by decide) h
   have cop:Nat.Coprime (2 ^ k) (2*r+1):=Nat.Coprime.pow_left k (by
    rw[Nat.coprime_iff_gcd_eq_one,Nat.gcd_rec]
    rw[show (2*r+1) % 2=1 by omega]
    rfl)
   have h4:2 ^ k ∣ sm q:=cop.dvd_of_dvd_mul_right h3
   have h5:=sm_div k q h4
   rw[Nat.pow_succ,Nat.mul_comm]
   exact Nat.mul_dvd_mul_left 2 h5
  ·obtain⟨q,rfl⟩ : ∃ q,d=2*q+1:=⟨d/2,by omega⟩
   have h1:=sm_odd q
   have:2 ∣ sm (2*q+1):=Nat.dvd_trans ⟨2 ^ k,by rw[Nat.pow_succ,Nat.mul_comm]⟩ h
   omega
def stp (M i:Nat):Nat:=(i*5+1) % M
def itr (M:Nat):Nat->Nat->Nat
 | 0,i=>i
 | m+1,i=>itr M m (stp M i)
theorem itr_mod (M:Nat):∀ (m i:Nat),i<M->itr M m i=(5 ^ m*i+sm m) % M
 | 0,i,h=>by simp[itr,sm,Nat.mod_eq_of_lt h]
 | m+1,i,h=>by
  have hM:0<M:=by omega
  show itr M m (stp M i)=_
  rw[itr_mod M m (stp M i) (Nat.mod_lt _ hM)]
  unfold stp
  have e:5 ^ (m+1)*i+sm (m+1)=5 ^ m*(i*5+1)+sm m:=by
   have h2:=sm_pow m
   have h3:sm (m+1)=5 ^ m+sm m:=by rw[sm]; omega
   rw[h3,Nat.pow_succ,Nat.mul_add,Nat.mul_one]
   have:5 ^ m*5*i=5 ^ m*(i*5):=by rw[Nat.mul_assoc,Nat.mul_comm 5 i]
   omega
  rw[e,Nat.add_mod,Nat.mul_mod,Nat.mod_mod,← Nat.mul_mod,← Nat.add_mod]
theorem itr_lt {M i:Nat} (h:i<M) (m:Nat):itr M m i<M:=by
 rw[itr_mod M m i h]; exact Nat.mod_lt _ (by omega)
theorem itr_add (M:Nat):∀ (a b i:Nat),itr M (a+b) i=itr M b (itr M a i)
 | 0,b,i=>by simp[itr]
 | a+1,b,i=>by rw[show a+1+b=(a+b)+1 by omega,itr,itr_add M a b,itr]
theorem itr_back {k d x:Nat} (hx:x<2 ^ k) (h:itr (2 ^ k) d x=x):2 ^ k ∣ d:=by
 rw[itr_mod _ _ _ hx] at h
 have e:5 ^ d*x+sm d=x+sm d*(4*x+1):=by
  rw[<-sm_pow d,Nat.add_mul,Nat.one_mul,Nat.mul_add,Nat.mul_one]
  have:4*sm d*x=sm d*(4*x):=by rw[Nat.mul_comm 4 (sm d),Nat.mul_assoc]
  omega
 rw[e] at h
 have h2:2 ^ k ∣ sm d*(4*x+1):=by
  have a:(x+sm d*(4*x+1)) % 2 ^ k=x % 2 ^ k:=by rw[h,Nat.mod_eq_of_lt hx]
  have:=Nat.sub_mod_eq_zero_of_mod_eq a
  rw[Nat.add_sub_cancel_left] at this
  exact Nat.dvd_of_mod_eq_zero this
 have cop:Nat.Coprime (2 ^ k) (4*x+1):=Nat.Coprime.pow_left k (by
  rw[Nat.coprime_iff_gcd_eq_one,Nat.gcd_rec,show (4*x+1) % 2=1 by omega]
  rfl)
 exact sm_div k d (cop.dvd_of_dvd_mul_right h2)
theorem nodup_lt:∀ (N:Nat) (l:List Nat),l.Nodup->(∀ x∈l,x<N)->l.length<=N
 | 0,[],_,_=>Nat.le_refl _
 | 0,x::_,_,h=>absurd (h x (by simp)) (by omega)
 | N+1,l,nd,h=>by
  by_cases hm:N∈l
  ·have:=nodup_lt N (l.erase N) (nd.erase _) (fun x hx=>by
    have h1:=h x (List.mem_of_mem_erase hx)
    have h2:x≠N:=fun e=>by
     subst e
     exact List.Nodup.not_mem_erase nd hx
    omega)
   rw[List.length_erase_of_mem hm] at this
   omega
  ·have:=nodup_lt N l nd (fun x hx=>by
    have h1:=h x hx
    have h2:x≠N:=fun e=>hm (e ▸ hx)
    omega)
   omega
theorem itr_all {k x j:Nat} (hx:x<2 ^ k) (hj:j<2 ^ k):∃ m,m<2 ^ k/\itr (2 ^ k) m x=j:=by
 by_cases hm:j∈(List.range (2 ^ k)).map fun m=>itr (2 ^ k) m x
 ·obtain⟨m,h1,h2⟩:=List.mem_map.mp hm
  exact⟨m,List.mem_range.mp h1,h2⟩
 ·exfalso
  have nd:((List.range (2 ^ k)).map fun m=>itr (2 ^ k) m x).Nodup:=by
   unfold List.Nodup
   rw[List.pairwise_map]
   refine List.Pairwise.imp_of_mem ?_ (List.pairwise_lt_range (n:=2 ^ k))
   intro a b ha hb hab e
   have hb':=List.mem_range.mp hb
   obtain⟨d,rfl⟩ : ∃ d,b=a+d:=⟨b-a,by omega⟩
   rw[itr_add] at e
   have:=itr_back (itr_lt hx a) e.symm
   have:=Nat.le_of_dvd (by omega) this
   omega
  have:=nodup_lt (2 ^ k) (j::(List.range (2 ^ k)).map fun m=>itr (2 ^ k) m x) (List.nodup_cons.mpr ⟨hm,nd⟩) (fun y hy=>by
   rcases List.mem_cons.mp hy with rfl | hy
   ·exact hj
   ·obtain⟨m,_,rfl⟩:=List.mem_map.mp hy
    exact itr_lt hx m)
  rw[List.length_cons,List.length_map,List.length_range] at this
  omega
end STb
namespace STb
open PySem
def Rise (xs:Array Nat):Prop:=∀ i j a b:Nat,i<j->xs[i]?=some a->xs[j]?=some b->a<b
theorem below_go {xs:Array Nat} {j:Nat}:∀ (fuel lo hi:Nat),Rise xs->hi<=xs.size->hi-lo<=fuel->lo<=hi->(∀ i a:Nat,i<lo->xs[i]?=some a->a<j)->(∀ i a:Nat,hi<=i->xs[i]?=some a->j<=a) ->
  SetTable.below.go xs j fuel lo hi<=xs.size/\(∀ i a:Nat,i<SetTable.below.go xs j fuel lo hi->xs[i]?=some a->a<j)/\(∀ i a:Nat,SetTable.below.go xs j fuel lo hi<=i->xs[i]?=some a->j<=a)
 | 0,lo,hi,R,h1,h2,h3,h4,h5=>by
  have e:lo=hi:=by omega
  subst e
  exact⟨by rw[SetTable.below.go]; exact h1,by rw[SetTable.below.go]; exact h4,by rw[SetTable.below.go]; exact h5⟩
 | fuel+1,lo,hi,R,h1,h2,h3,h4,h5=>by
  rw[SetTable.below.go]
  by_cases hl:lo<hi
  ·rw[if_pos hl]
   have hm:(lo+hi)/2<xs.size:=by omega
   have ha:xs[(lo+hi)/2]?=some xs[(lo+hi)/2]:=Array.getElem?_eq_getElem hm
   have hg:xs.getD ((lo+hi)/2) j=xs[(lo+hi)/2]:=by simp[Array.getD,hm]
   dsimp only
   rw[hg]
   by_cases hc:xs[(lo+hi)/2]<j
   ·rw[if_pos hc]
    refine below_go fuel _ hi R h1 (by omega) (by omega) (fun i a hi' ea=>?_) h5
    by_cases e:i=(lo+hi)/2
    ·subst e
     rw[ha] at ea
     cases ea
     exact hc
    ·exact Nat.lt_trans (R i ((lo+hi)/2) a _ (by omega) ea ha) hc
   ·rw[if_neg hc]
    refine below_go fuel lo _ R (by omega) (by omega) (by omega) h4 (fun i a hi' ea=>?_)
    by_cases e:i=(lo+hi)/2
    ·subst e
     rw[ha] at ea
     cases ea
     omega
    ·have:=R ((lo+hi)/2) i _ a (by omega) ha ea
     omega
  ·rw[if_neg hl]
   have e:lo=hi:=by omega
   subst e
   exact⟨h1,h4,h5⟩
theorem below_at {xs:Array Nat} {j:Nat} (R:Rise xs):SetTable.below xs j<=xs.size/\(∀ i a:Nat,i<SetTable.below xs j->xs[i]?=some a->a<j)/\(∀ i a:Nat,SetTable.below xs j<=i->xs[i]?=some a->j<=a):=by
 unfold SetTable.below
 refine below_go _ _ _ R (Nat.le_refl _) (by omega) (Nat.zero_le _) (fun i a h _=>absurd h (by omega)) (fun i a h e=>?_)
 have:=(Array.getElem?_eq_some_iff.mp e).1
 omega
theorem below_eq {xs:Array Nat} {i j:Nat} (R:Rise xs) (h:xs[i]?=some j):SetTable.below xs j=i:=by
 obtain⟨h1,h2,h3⟩:=below_at (j:=j) R
 rcases Nat.lt_trichotomy (SetTable.below xs j) i with z | z | z
 ·have hb:SetTable.below xs j<xs.size:=by have:=(Array.getElem?_eq_some_iff.mp h).1; omega
  have e:=Array.getElem?_eq_getElem hb
  have:=h3 _ _ (Nat.le_refl _) e
  have:=R _ _ _ _ z e h
  omega
 ·exact z
 ·have:=h2 i j z h
  omega
structure Ok (t:SetTable) (k:Nat):Prop where
 rise:Rise t.place
 le:∀ i a:Nat,t.place[i]?=some a->a<2 ^ k
 nod:t.dummies = #[]
 mask:t.mask+1=2 ^ k
 room:t.place.size<=t.mask
theorem has_nil {j:Nat}:SetTable.has #[] j=false:=by
 unfold SetTable.has SetTable.below SetTable.below.go
 rfl
theorem slot_live {t:SetTable} {k i j:Nat} (o:Ok t k):t.slot j=.live i↔t.place[i]?=some j:=by
 unfold SetTable.slot
 dsimp only
 by_cases h:(t.place[SetTable.below t.place j]? == some j)=true
 ·rw[if_pos h]
  have h':=beq_iff_eq.mp h
  constructor
  ·intro e
   cases e
   exact h'
  ·intro e
   rw[below_eq o.rise e]
 ·rw[if_neg h,o.nod,has_nil]
  constructor
  ·intro e; cases e
  ·intro e
   exfalso
   apply h
   rw[below_eq o.rise e,e]
   simp
theorem slot_empty {t:SetTable} {k j:Nat} (o:Ok t k):t.slot j=.empty↔∀ i:Nat,t.place[i]?≠some j:=by
 constructor
 ·intro e i h
  rw[(slot_live o).mpr h] at e
  cases e
 ·intro h
  unfold SetTable.slot
  dsimp only
  rw[if_neg (fun z=>h _ (beq_iff_eq.mp z)),o.nod,has_nil]
  rfl
theorem slot_cases {t:SetTable} {k:Nat} (o:Ok t k) (j:Nat):t.slot j=.empty\/∃ i,t.slot j=.live i:=by
 by_cases h:∃ i:Nat,t.place[i]?=some j
 ·obtain⟨i,hi⟩:=h
  exact .inr ⟨i,(slot_live o).mpr hi⟩
 ·exact .inl ((slot_empty o).mpr fun i e=>h ⟨i,e⟩)
theorem some_free {t:SetTable} {k:Nat} (o:Ok t k):∃ j,j<2 ^ k/\t.slot j=.empty:=by
 by_cases h:∃ j,j<2 ^ k/\j∉t.place.toList
 ·obtain⟨j,h1,h2⟩:=h
  refine⟨j,h1,(slot_empty o).mpr fun i e=>h2 ?_⟩
  exact List.mem_of_getElem? (by rw[Array.getElem?_toList]; exact e)
 ·exfalso
  have all:∀ j,j<2 ^ k->j∈t.place.toList:=fun j hj=>by
   by_cases z:j∈t.place.toList
   ·exact z
   ·exact absurd ⟨j,hj,z⟩ h
  have key:∀ (N:Nat) (l:List Nat),(∀ j,j<N->j∈l)->N<=l.length:=by
   intro N
   induction N with
   | zero=>intro l _; exact Nat.zero_le _
   | succ N ih=>
    intro l hl
    have hm:=hl N (by omega)
    have:=ih (l.erase N) (fun j hj=>(List.mem_erase_of_ne (by omega)).mpr (hl j (by omega)))
    rw[List.length_erase_of_mem hm] at this
    have:0<l.length:=List.length_pos_of_mem hm
    omega
  have:=key (2 ^ k) t.place.toList all
  rw[Array.length_toList] at this
  have:=o.room
  have:=o.mask
  omega
def adv (t:SetTable):Nat->SetTable.Probe->SetTable.Probe
 | 0,p=>p
 | m+1,p=>adv t m (t.advance p)
theorem adv_add (t:SetTable):∀ (a b:Nat) (p:SetTable.Probe),adv t (a+b) p=adv t b (adv t a p)
 | 0,b,p=>by simp[adv]
 | a+1,b,p=>by rw[show a+1+b=(a+b)+1 by omega,adv,adv_add t a b,adv]
structure Well (t:SetTable) (k:Nat) (p:SetTable.Probe):Prop where
 i:p.i<2 ^ k
 j:p.j+p.more=SetTable.runEnd t.mask p.i
 ij:p.i<=p.j
 pt:p.perturb<2 ^ 64
 du:p.dummy=none
theorem runEnd_le {mask i:Nat} (h:i<=mask):i<=SetTable.runEnd mask i/\SetTable.runEnd mask i<=i+9/\SetTable.runEnd mask i<=mask:=by
 unfold SetTable.runEnd
 split <;> omega
theorem Well.start {t:SetTable} {k:Nat} (hm:t.mask+1=2 ^ k) (h:Int):Well t k (t.probeStart h):=by
 have hp:0<2 ^ k:=by omega
 have hi:SetTable.bits h % (t.mask+1)<2 ^ k:=by rw[hm]; exact Nat.mod_lt _ hp
 obtain⟨r1,r2,r3⟩:=runEnd_le (mask:=t.mask) (i:=SetTable.bits h % (t.mask+1)) (by omega)
 refine⟨hi,?_,Nat.le_refl _,?_,rfl⟩
 ·show SetTable.bits h % (t.mask+1)+(SetTable.runEnd t.mask (SetTable.bits h % (t.mask+1))-SetTable.bits h % (t.mask+1))=_
  show _=SetTable.runEnd t.mask (SetTable.bits h % (t.mask+1))
  omega
 ·show SetTable.bits h<2 ^ 64
  unfold SetTable.bits
  have h1:=Int.emod_lt_of_pos h (show (0:Int)<2 ^ 64 by decide)
  have h2:=Int.emod_nonneg h (show (2 ^ 64:Int)≠0 by decide)
  omega
theorem Well.advance {t:SetTable} {k:Nat} {p:SetTable.Probe} (hm:t.mask+1=2 ^ k) (w:Well t k p):Well t k (t.advance p):=by
 unfold SetTable.advance
 by_cases h:p.more>0
 ·rw[if_pos h]
  exact⟨w.i,by have:=w.j; show p.j+1+(p.more-1)=SetTable.runEnd t.mask p.i; omega,by have:=w.ij; show p.i<=p.j+1; omega,w.pt,w.du⟩
 ·rw[if_neg h]
  unfold SetTable.leap
  dsimp only
  have hp:0<2 ^ k:=by omega
  have hi:(p.i*5+1+p.perturb/32) % (t.mask+1)<2 ^ k:=by rw[hm]; exact Nat.mod_lt _ hp
  obtain⟨r1,r2,r3⟩:=runEnd_le (mask:=t.mask) (i:=(p.i*5+1+p.perturb/32) % (t.mask+1)) (by omega)
  refine⟨hi,?_,Nat.le_refl _,?_,w.du⟩
  ·show (p.i*5+1+p.perturb/32) % (t.mask+1)+(SetTable.runEnd t.mask ((p.i*5+1+p.perturb/32) % (t.mask+1))-(p.i*5+1+p.perturb/32) % (t.mask+1))=SetTable.runEnd t.mask ((p.i*5+1+p.perturb/32) % (t.mask+1))
   omega
  ·have:=w.pt
   show p.perturb/32<2 ^ 64
   omega
theorem Well.adv {t:SetTable} {k:Nat} (hm:t.mask+1=2 ^ k):∀ (m:Nat) {p:SetTable.Probe},Well t k p->Well t k (STb.adv t m p)
 | 0,p,w=>w
 | m+1,p,w=>Well.adv hm m (w.advance hm)
theorem Well.jle {t:SetTable} {k:Nat} {p:SetTable.Probe} (hm:t.mask+1=2 ^ k) (w:Well t k p):p.j<2 ^ k:=by
 obtain⟨r1,r2,r3⟩:=runEnd_le (mask:=t.mask) (i:=p.i) (by have:=w.i; omega)
 have:=w.j
 omega
theorem leap_next {t:SetTable} {k:Nat} (hm:t.mask+1=2 ^ k):∀ (n:Nat) {p:SetTable.Probe},Well t k p->p.more=n->(adv t (n+1) p).i=(p.i*5+1+p.perturb/32) % 2 ^ k/\(adv t (n+1) p).perturb=p.perturb/32/\(adv t (n+1) p).j=(adv t (n+1) p).i
 | 0,p,w,e=>by
  show (t.advance p).i=_/\(t.advance p).perturb=_/\(t.advance p).j=(t.advance p).i
  unfold SetTable.advance
  rw[if_neg (by omega)]
  unfold SetTable.leap
  dsimp only
  rw[hm]
  exact⟨rfl,rfl,rfl⟩
 | n+1,p,w,e=>by
  have w1:=w.advance hm
  have e1:(t.advance p).more=n:=by
   unfold SetTable.advance
   rw[if_pos (by omega)]
   show p.more-1=n
   omega
  have e2:(t.advance p).i=p.i/\(t.advance p).perturb=p.perturb:=by
   unfold SetTable.advance
   rw[if_pos (by omega)]
   exact⟨rfl,rfl⟩
  have:=leap_next hm n w1 e1
  rw[e2.1,e2.2] at this
  exact this
theorem more_le {t:SetTable} {k:Nat} {p:SetTable.Probe} (hm:t.mask+1=2 ^ k) (w:Well t k p):p.more<=9:=by
 obtain⟨r1,r2,r3⟩:=runEnd_le (mask:=t.mask) (i:=p.i) (by have:=w.i; omega)
 have:=w.j
 have:=w.ij
 omega
theorem leaps {t:SetTable} {k:Nat} (hm:t.mask+1=2 ^ k):∀ (q:Nat) {p:SetTable.Probe},Well t k p->∃ m,m<=10*(q+1)/\(adv t m p).perturb=p.perturb/32 ^ (q+1)/\(adv t m p).j=(adv t m p).i
 | 0,p,w=>by
  obtain⟨h1,h2,h3⟩:=leap_next hm p.more w rfl
  have:=more_le hm w
  exact⟨p.more+1,by omega,h2,h3⟩
 | q+1,p,w=>by
  obtain⟨h1,h2,h3⟩:=leap_next hm p.more w rfl
  obtain⟨m,a1,a2,a3⟩:=leaps hm q (Well.adv hm (p.more+1) w)
  have:=more_le hm w
  refine⟨p.more+1+m,by omega,?_,?_⟩
  ·rw[adv_add,a2,h2,Nat.div_div_eq_div_mul]
   congr 1
   rw[Nat.pow_succ 32 (q+1),Nat.mul_comm]
  ·rw[adv_add]; exact a3
theorem rounds {t:SetTable} {k:Nat} (hm:t.mask+1=2 ^ k):∀ (r:Nat) {p:SetTable.Probe},Well t k p->p.perturb=0->p.j=p.i->∃ m,m<=10*r/\(adv t m p).i=itr (2 ^ k) r p.i/\(adv t m p).j=(adv t m p).i
 | 0,p,w,e1,e2=>⟨0,by omega,rfl,e2⟩
 | r+1,p,w,e1,e2=>by
  obtain⟨h1,h2,h3⟩:=leap_next hm p.more w rfl
  rw[e1] at h1 h2
  obtain⟨m,a1,a2,a3⟩:=rounds hm r (Well.adv hm (p.more+1) w) (by rw[h2]) h3
  have:=more_le hm w
  refine⟨p.more+1+m,by omega,?_,?_⟩
  ·rw[adv_add,a2,h1]
   rfl
  ·rw[adv_add]; exact a3
theorem meets_empty {t:SetTable} {k:Nat} (o:Ok t k) {p:SetTable.Probe} (w:Well t k p):∃ m,m<10*SetTable.turns t.mask/\t.slot (adv t m p).j=.empty:=by
 obtain⟨j,hj,ej⟩:=some_free o
 obtain⟨m1,a1,a2,a3⟩:=leaps o.mask 12 w
 have w1:=Well.adv o.mask m1 w
 have p0:(adv t m1 p).perturb=0:=by
  rw[a2]
  have:=w.pt
  exact Nat.div_eq_of_lt (Nat.lt_of_lt_of_le this (by decide))
 obtain⟨r,hr,er⟩:=itr_all w1.i hj
 obtain⟨m2,b1,b2,b3⟩:=rounds o.mask r w1 p0 a3
 refine⟨m1+m2,?_,?_⟩
 ·unfold SetTable.turns
  have:=o.mask
  omega
 ·rw[adv_add,b3,b2,er]
  exact ej
theorem go_meets {t:SetTable} {k:Nat} (o:Ok t k) (hashAt:Nat->Int) (h:Int):∀ (m fuel:Nat) {p:SetTable.Probe},m<fuel->Well t k p->t.slot (adv t m p).j=.empty ->
  ∃ m',m'<=m/\(∀ l,l<m'->∃ i,t.slot (adv t l p).j=.live i/\hashAt i≠h) /\
   ((t.slot (adv t m' p).j=.empty/\SetTable.probe.go t hashAt h fuel p=some (.empty (adv t m' p).j none)) \/
    ∃ i,t.slot (adv t m' p).j=.live i/\hashAt i=h/\SetTable.probe.go t hashAt h fuel p=some (.candidate (adv t m' p).j i (adv t (m'+1) p)))
 | m,0,p,hf,w,e=>absurd hf (by omega)
 | m,fuel+1,p,hf,w,e=>by
  rw[SetTable.probe.go]
  rcases slot_cases o p.j with hs | ⟨i,hs⟩
  ·refine⟨0,Nat.zero_le _,fun l hl=>absurd hl (by omega),.inl ⟨hs,?_⟩⟩
   rw[hs]
   dsimp only
   rw[w.du]
   rfl
  ·by_cases hh:hashAt i=h
   ·refine⟨0,Nat.zero_le _,fun l hl=>absurd hl (by omega),.inr ⟨i,hs,hh,?_⟩⟩
    rw[hs]
    dsimp only
    rw[if_pos (by simpa using hh)]
    rfl
   ·cases m with
    | zero=>
     have e':t.slot p.j=.empty:=e
     rw[hs] at e'; cases e'
    | succ m=>
     obtain⟨m',c1,c2,c3⟩:=go_meets o hashAt h m fuel (p:=t.advance p) (by omega) (w.advance o.mask) e
     refine⟨m'+1,by omega,fun l hl=>?_,?_⟩
     ·cases l with
      | zero=>exact⟨i,hs,hh⟩
      | succ l=>exact c2 l (by omega)
     ·rw[hs]
      dsimp only
      rw[if_neg (by simpa using hh)]
      exact c3
end STb
namespace STb
open PySem
theorem insertAt_list {α:Type} (xs:Array α) (p:Nat) (x:α):(SetTable.insertAt xs p x).toList=xs.toList.take p++x::xs.toList.drop p:=by
 unfold SetTable.insertAt
 rw[Array.toList_append,Array.toList_push,Array.toList_extract,Array.toList_extract]
 simp[List.extract]
 exact List.take_of_length_le (by rw[List.length_drop,Array.length_toList]; exact Nat.le_refl _)
theorem insertAt_size {α:Type} (xs:Array α) {p:Nat} (x:α) (h:p<=xs.size):(SetTable.insertAt xs p x).size=xs.size+1:=by
 rw[<-Array.length_toList,insertAt_list,List.length_append,List.length_cons,List.length_take,List.length_drop,Array.length_toList]
 omega
theorem insertAt_get {α:Type} (xs:Array α) {p:Nat} (x:α) (h:p<=xs.size) (i:Nat):(SetTable.insertAt xs p x)[i]?=if i<p then xs[i]? else if i=p then some x else xs[i-1]?:=by
 rw[<-Array.getElem?_toList,insertAt_list]
 by_cases h1:i<p
 ·rw[if_pos h1,List.getElem?_append_left (by rw[List.length_take,Array.length_toList]; omega),List.getElem?_take_of_lt h1,Array.getElem?_toList]
 ·rw[if_neg h1,List.getElem?_append_right (by rw[List.length_take]; omega),List.length_take,Array.length_toList,Nat.min_eq_left h]
  by_cases h2:i=p
  ·rw[if_pos h2,h2,Nat.sub_self]
   rfl
  ·rw[if_neg h2]
   obtain⟨d,rfl⟩ : ∃ d,i=p+1+d:=⟨i-p-1,by omega⟩
   rw[show p+1+d-p=d+1 by omega,List.getElem?_cons_succ,List.getElem?_drop,Array.getElem?_toList]
   congr 1
   omega
theorem insertAt_mem {α:Type} (xs:Array α) (p:Nat) (x y:α):y∈(SetTable.insertAt xs p x).toList↔y=x\/y∈xs.toList:=by
 rw[insertAt_list,List.mem_append,List.mem_cons]
 conv=>rhs; rw[<-List.take_append_drop p xs.toList,List.mem_append]
 constructor
 ·rintro (h | h | h)
  ·exact .inr (.inl h)
  ·exact .inl h
  ·exact .inr (.inr h)
 ·rintro (h | h | h)
  ·exact .inr (.inl h)
  ·exact .inl h
  ·exact .inr (.inr h)
theorem insertAt_perm {α:Type} (xs:Array α) (p:Nat) (x:α):(SetTable.insertAt xs p x).toList.Perm (x::xs.toList):=by
 rw[insertAt_list]
 refine List.perm_middle.trans ?_
 rw[List.take_append_drop]
theorem rise_put {xs:Array Nat} {j:Nat} (R:Rise xs) (hj:∀ i:Nat,xs[i]?≠some j):Rise (SetTable.insertAt xs (SetTable.below xs j) j):=by
 obtain⟨b1,b2,b3⟩:=below_at (j:=j) R
 intro i i' a b hii ea eb
 rw[insertAt_get _ _ b1] at ea eb
 by_cases c1:i<SetTable.below xs j
 ·rw[if_pos c1] at ea
  by_cases c2:i'<SetTable.below xs j
  ·rw[if_pos c2] at eb
   exact R i i' a b hii ea eb
  ·rw[if_neg c2] at eb
   by_cases c3:i'=SetTable.below xs j
   ·rw[if_pos c3] at eb
    cases eb
    exact b2 i a c1 ea
   ·rw[if_neg c3] at eb
    exact R i (i'-1) a b (by omega) ea eb
 ·rw[if_neg c1] at ea
  rw[if_neg (by omega),if_neg (by omega)] at eb
  have hb:=b3 (i'-1) b (by omega) eb
  by_cases c3:i=SetTable.below xs j
  ·rw[if_pos c3] at ea
   cases ea
   have:b≠j:=fun e=>hj (i'-1) (by rw[eb,e])
   omega
  ·rw[if_neg c3] at ea
   exact R (i-1) (i'-1) a b (by omega) ea eb
theorem put_ok {t:SetTable} {k j:Nat} (o:Ok t k) (hj:j<2 ^ k) (he:t.slot j=.empty) (hr:t.place.size+1<=t.mask):Ok (t.put j).1 k/\(t.put j).2=SetTable.below t.place j/\(t.put j).1.place=SetTable.insertAt t.place (SetTable.below t.place j) j/\(t.put j).1.mask=t.mask/\(t.put j).1.led=t.led/\(t.put j).1.plain=t.plain:=by
 have hn:=(slot_empty o).mp he
 obtain⟨b1,b2,b3⟩:=below_at (j:=j) o.rise
 have hd:(t.put j).1.dummies = #[]:=by
  show (if SetTable.has t.dummies j=true then _ else t.dummies) = #[]
  rw[o.nod,has_nil]
  rfl
 refine⟨⟨rise_put o.rise hn,fun i a e=>?_,hd,o.mask,?_⟩,rfl,rfl,rfl,rfl,rfl⟩
 ·have:a∈(SetTable.insertAt t.place (SetTable.below t.place j) j).toList:=List.mem_of_getElem? (by rw[Array.getElem?_toList]; exact e)
  rcases (insertAt_mem _ _ _ _).mp this with z | z
  ·rw[z]; exact hj
  ·obtain⟨i',e'⟩:=List.getElem?_of_mem z
   rw[Array.getElem?_toList] at e'
   exact o.le i' a e'
 ·show (SetTable.insertAt t.place (SetTable.below t.place j) j).size<=t.mask
  rw[insertAt_size _ _ b1]
  exact hr
def Found (t:SetTable) (hs:List Int):Prop:=∀ (i j:Nat) (h:Int),hs[i]?=some h->t.place[i]?=some j->∃ m,(adv t m (t.probeStart h)).j=j/\∀ l,l<m->t.slot (adv t l (t.probeStart h)).j≠.empty
theorem adv_mask {t t':SetTable} (h:t.mask=t'.mask):∀ (m:Nat) (p:SetTable.Probe),adv t m p=adv t' m p
 | 0,p=>rfl
 | m+1,p=>by
  rw[adv,adv]
  have:t.advance p=t'.advance p:=by unfold SetTable.advance; rw[h]
  rw[this]
  exact adv_mask h m _
theorem start_mask {t t':SetTable} (h:t.mask=t'.mask) (x:Int):t.probeStart x=t'.probeStart x:=by unfold SetTable.probeStart; rw[h]
theorem found_put {t:SetTable} {k j:Nat} {hs:List Int} {h:Int} (o:Ok t k) (hj:j<2 ^ k) (he:t.slot j=.empty) (hr:t.place.size+1<=t.mask) (F:Found t hs) (hl:hs.length=t.place.size) {m:Nat} (hm:(adv t m (t.probeStart h)).j=j) (hb:∀ l,l<m->t.slot (adv t l (t.probeStart h)).j≠.empty) :
  Found (t.put j).1 (hs.take (t.put j).2++h::hs.drop (t.put j).2):=by
 obtain⟨o',e2,ep,em,_⟩:=put_ok o hj he hr
 obtain⟨b1,b2,b3⟩:=below_at (j:=j) o.rise
 have keep:∀ x,t.slot x≠.empty->(t.put j).1.slot x≠.empty:=fun x hx=>by
  rcases slot_cases o x with z | ⟨i,z⟩
  ·exact absurd z hx
  ·have:=(slot_live o).mp z
   intro ee
   have:=(slot_empty o').mp ee
   have hmem:x∈(t.put j).1.place.toList:=by
    rw[ep]
    exact (insertAt_mem _ _ _ _).mpr (.inr (List.mem_of_getElem? (by rw[Array.getElem?_toList]; assumption)))
   obtain⟨i',e'⟩:=List.getElem?_of_mem hmem
   rw[Array.getElem?_toList] at e'
   exact this i' e'
 have way:∀ (x:Int) (m:Nat),(∀ l,l<m->t.slot (adv t l (t.probeStart x)).j≠.empty)->∀ l,l<m->(t.put j).1.slot (adv (t.put j).1 l ((t.put j).1.probeStart x)).j≠.empty:=fun x m hx l hl'=>by
  rw[adv_mask em,start_mask em]
  exact keep _ (hx l hl')
 intro i j' h' e1 e3
 rw[ep,insertAt_get _ _ b1] at e3
 rw[e2] at e1
 have hlt:(hs.take (SetTable.below t.place j)).length=SetTable.below t.place j:=by rw[List.length_take]; omega
 by_cases c1:i<SetTable.below t.place j
 ·rw[if_pos c1] at e3
  rw[List.getElem?_append_left (by omega),List.getElem?_take_of_lt c1] at e1
  obtain⟨m',a1,a2⟩:=F i j' h' e1 e3
  exact⟨m',by rw[adv_mask em,start_mask em]; exact a1,way h' m' a2⟩
 ·rw[if_neg c1] at e3
  rw[List.getElem?_append_right (by omega),hlt] at e1
  by_cases c2:i=SetTable.below t.place j
  ·rw[if_pos c2] at e3
   rw[c2,Nat.sub_self] at e1
   cases e1
   cases e3
   exact⟨m,by rw[adv_mask em,start_mask em]; exact hm,way h m hb⟩
  ·rw[if_neg c2] at e3
   obtain⟨d,rfl⟩ : ∃ d,i=SetTable.below t.place j+1+d:=⟨i-SetTable.below t.place j-1,by omega⟩
   rw[show SetTable.below t.place j+1+d-SetTable.below t.place j=d+1 by omega,List.getElem?_cons_succ,List.getElem?_drop] at e1
   rw[show SetTable.below t.place j+1+d-1=SetTable.below t.place j+d by omega] at e3
   obtain⟨m',a1,a2⟩:=F _ j' h' e1 e3
   exact⟨m',by rw[adv_mask em,start_mask em]; exact a1,way h' m' a2⟩
end STb
namespace STb
open PySem
def tm (mask:Nat):SetTable:={ SetTable.fresh 0 0 false with mask:=mask }
theorem cover_le:∀ (N:Nat) (l:List Nat),(∀ j,j<N->j∈l)->N<=l.length:=by
 intro N
 induction N with
 | zero=>intro l _; exact Nat.zero_le _
 | succ N ih=>
  intro l hl
  have hm:=hl N (by omega)
  have:=ih (l.erase N) (fun j hj=>(List.mem_erase_of_ne (by omega)).mpr (hl j (by omega)))
  rw[List.length_erase_of_mem hm] at this
  have:0<l.length:=List.length_pos_of_mem hm
  omega
def lpS (mask:Nat):Nat->SetTable.Probe->SetTable.Probe
 | 0,p=>p
 | q+1,p=>lpS mask q (adv (tm mask) (p.more+1) p)
theorem lpS_add (mask:Nat):∀ (a b:Nat) (p:SetTable.Probe),lpS mask (a+b) p=lpS mask b (lpS mask a p)
 | 0,b,p=>by simp[lpS]
 | a+1,b,p=>by rw[show a+1+b=(a+b)+1 by omega,lpS,lpS_add mask a b,lpS]
section
variable {mask k:Nat} (hm:mask+1=2 ^ k)
include hm
theorem lpS_well:∀ (q:Nat) {p:SetTable.Probe},Well (tm mask) k p->Well (tm mask) k (lpS mask q p)
 | 0,p,w=>w
 | q+1,p,w=>lpS_well q (Well.adv (t:=tm mask) hm _ w)
theorem lpS_pert:∀ (q:Nat) {p:SetTable.Probe},Well (tm mask) k p->(lpS mask q p).perturb=p.perturb/32 ^ q
 | 0,p,w=>by simp[lpS]
 | q+1,p,w=>by
  obtain⟨h1,h2,h3⟩:=leap_next (t:=tm mask) hm p.more w rfl
  rw[lpS,lpS_pert q (Well.adv (t:=tm mask) hm _ w),h2,Nat.div_div_eq_div_mul]
  congr 1
  rw[Nat.pow_succ,Nat.mul_comm]
theorem lpS_rounds:∀ (r:Nat) {p:SetTable.Probe},Well (tm mask) k p->p.perturb=0->(lpS mask r p).i=itr (2 ^ k) r p.i
 | 0,p,w,e=>rfl
 | r+1,p,w,e=>by
  obtain⟨h1,h2,h3⟩:=leap_next (t:=tm mask) hm p.more w rfl
  rw[e] at h1 h2
  rw[lpS,lpS_rounds r (Well.adv (t:=tm mask) hm _ w) (by rw[h2]),h1]
  rfl
theorem lpS_meets {p:SetTable.Probe} (w:Well (tm mask) k p) {j:Nat} (hj:j<2 ^ k):∃ q,q<SetTable.turns mask/\(lpS mask q p).i=j:=by
 have p0:(lpS mask 13 p).perturb=0:=by
  rw[lpS_pert hm 13 w]
  exact Nat.div_eq_of_lt (Nat.lt_of_lt_of_le w.pt (by decide))
 have w1:=lpS_well hm 13 w
 obtain⟨r,hr,er⟩:=itr_all w1.i hj
 refine⟨13+r,by unfold SetTable.turns; omega,?_⟩
 rw[lpS_add,lpS_rounds hm r w1 p0,er]
theorem adv_run:∀ (l:Nat) {p:SetTable.Probe},l<=p.more->(adv (tm mask) l p).j=p.j+l
 | 0,p,h=>rfl
 | l+1,p,h=>by
  have e:(tm mask).advance p={ p with j:=p.j+1,more:=p.more-1 }:=by
   unfold SetTable.advance
   rw[if_pos (by omega)]
  rw[adv,adv_run l (by rw[e]; show l<=p.more-1; omega),e]
  show p.j+1+l=p.j+(l+1)
  omega
theorem free_ok (owner:Array (Option Nat)):∀ (fuel:Nat) {p:SetTable.Probe},Well (tm mask) k p->p.j=p.i->(∃ q,q<fuel/\(owner.getD (lpS mask q p).i (some 0)).isNone=true) ->
  ∃ m,SetTable.layClean.free mask owner fuel p.i p.perturb=some (adv (tm mask) m p).j/\(owner.getD (adv (tm mask) m p).j (some 0)).isNone=true/\∀ l,l<m->(owner.getD (adv (tm mask) l p).j (some 0)).isNone=false
 | 0,p,w,e,⟨q,hq,_⟩=>absurd hq (by omega)
 | fuel+1,p,w,e,⟨q,hq,hn⟩=>by
  rw[SetTable.layClean.free]
  have hrun:SetTable.runEnd mask p.i+1-p.i=p.more+1:=by
   have h1:p.j+p.more=SetTable.runEnd mask p.i:=w.j
   omega
  rw[hrun]
  cases hf:(List.range (p.more+1)).find? fun k=>(owner.getD (p.i+k) (some 0)).isNone with
  | some k0=>
   have h1:=List.find?_some hf
   have h2:k0<p.more+1:=List.mem_range.mp (List.mem_of_find?_eq_some hf)
   have h3:∀ l,l<k0->(owner.getD (p.i+l) (some 0)).isNone=false:=fun l hl=>by
    obtain⟨as,bs,e1,e2⟩:=(List.find?_eq_some_iff_append.mp hf).2
    have hlen:as.length=k0:=by
     have a1:(List.range (p.more+1))[as.length]?=some k0:=by rw[e1,List.getElem?_append_right (Nat.le_refl _),Nat.sub_self]; rfl
     have a2:=(List.getElem?_eq_some_iff.mp a1).1
     rw[List.length_range] at a2
     rw[List.getElem?_range a2] at a1
     injection a1
    have a3:(List.range (p.more+1))[l]?=some l:=List.getElem?_range (by omega)
    rw[e1,List.getElem?_append_left (by omega)] at a3
    have:=e2 l (List.mem_of_getElem? a3)
    simpa using this
   refine⟨k0,?_,?_,fun l hl=>?_⟩
   ·rw[adv_run hm k0 (by omega),e]
   ·rw[adv_run hm k0 (by omega),e]; exact h1
   ·rw[adv_run hm l (by omega),e]; exact h3 l hl
  | none=>
   have h3:∀ l,l<p.more+1->(owner.getD (p.i+l) (some 0)).isNone=false:=fun l hl=>by
    have:=List.find?_eq_none.mp hf l (List.mem_range.mpr hl)
    exact Bool.eq_false_iff.mpr this
   obtain⟨l1,l2,l3⟩:=leap_next (t:=tm mask) hm p.more w rfl
   have w1:=Well.adv (t:=tm mask) hm (p.more+1) w
   cases q with
   | zero=>
    have:=h3 0 (by omega)
    rw[Nat.add_zero] at this
    have hn':(owner.getD p.i (some 0)).isNone=true:=hn
    rw[this] at hn'; cases hn'
   | succ q=>
    obtain⟨m,a1,a2,a3⟩:=free_ok owner fuel w1 l3 ⟨q,by omega,hn⟩
    refine⟨p.more+1+m,?_,by rw[adv_add]; exact a2,fun l hl=>?_⟩
    ·dsimp only
     unfold SetTable.leap
     dsimp only
     rw[adv_add,← a1,l1,l2,hm]
    ·by_cases hl':l<p.more+1
     ·rw[adv_run hm l (by omega),e]
      exact h3 l hl'
     ·obtain⟨d,rfl⟩ : ∃ d,l=p.more+1+d:=⟨l-(p.more+1),by omega⟩
      rw[adv_add]
      exact a3 d (by omega)
end
structure Laid (mask k:Nat) (owner:Array (Option Nat)) (hs:List Int) (js:List Nat):Prop where
 sz:owner.size=mask+1
 ln:js.length=hs.length
 own:∀ (i j:Nat),js[i]?=some j->owner[j]?=some (some i)
 bk:∀ (j i:Nat),owner[j]?=some (some i)->js[i]?=some j
 way:∀ (i j:Nat) (h:Int),hs[i]?=some h->js[i]?=some j->∃ m,(adv (tm mask) m ((tm mask).probeStart h)).j=j/\∀ l,l<m->∃ i',owner[(adv (tm mask) l ((tm mask).probeStart h)).j]?=some (some i')
theorem getD_none {owner:Array (Option Nat)} {j:Nat} (h:(owner.getD j (some 0)).isNone=true):owner[j]?=some none:=by
 by_cases hj:j<owner.size
 ·rw[Array.getElem?_eq_getElem hj]
  rw[Array.getD,dif_pos hj] at h
  cases e:owner[j] with
  | none=>rfl
  | some a=>simp[e] at h
 ·rw[Array.getD,dif_neg hj] at h
  cases h
theorem getD_some {owner:Array (Option Nat)} {j:Nat} (hj:j<owner.size) (h:(owner.getD j (some 0)).isNone=false):∃ i,owner[j]?=some (some i):=by
 rw[Array.getD,dif_pos hj] at h
 rw[Array.getElem?_eq_getElem hj]
 cases e:owner[j] with
 | none=>simp[e] at h
 | some a=>exact⟨a,rfl⟩
theorem laid_step {mask k:Nat} (hm:mask+1=2 ^ k) {owner:Array (Option Nat)} {hs:List Int} {js:List Nat} (L:Laid mask k owner hs js) (hr:hs.length<=mask) (h:Int) :
  ∃ j,SetTable.layClean.free mask owner (SetTable.turns mask) (SetTable.bits h % (mask+1)) (SetTable.bits h)=some j/\Laid mask k (owner.setIfInBounds j (some hs.length)) (hs++[h]) (js++[j]):=by
 have w:=Well.start (t:=tm mask) hm h
 obtain⟨j0,hj0,ej0⟩ : ∃ j,j<2 ^ k/\(owner.getD j (some 0)).isNone=true:=by
  by_cases z:∃ j,j<2 ^ k/\(owner.getD j (some 0)).isNone=true
  ·exact z
  ·exfalso
   have all:∀ j,j<2 ^ k->j∈js:=fun j hj=>by
    have hn:(owner.getD j (some 0)).isNone=false:=by
     cases e:(owner.getD j (some 0)).isNone with
     | false=>rfl
     | true=>exact absurd ⟨j,hj,e⟩ z
    obtain⟨i,hi⟩:=getD_some (by rw[L.sz]; omega) hn
    exact List.mem_of_getElem? (L.bk j i hi)
   have:=cover_le _ _ all
   have:=L.ln
   omega
 obtain⟨q,hq,eq⟩:=lpS_meets hm w hj0
 obtain⟨m,a1,a2,a3⟩:=free_ok hm owner (SetTable.turns mask) w rfl ⟨q,hq,by rw[eq]; exact ej0⟩
 refine⟨(adv (tm mask) m ((tm mask).probeStart h)).j,a1,?_⟩
 have hjm:=Well.jle (t:=tm mask) hm (Well.adv (t:=tm mask) hm m w)
 have hfree:=getD_none a2
 generalize hj:(adv (tm mask) m ((tm mask).probeStart h)).j=j at *
 have jsz:j<owner.size:=by rw[L.sz]; omega
 have get:∀ x,(owner.setIfInBounds j (some hs.length))[x]?=if x=j then some (some hs.length) else owner[x]?:=fun x=>by
  rw[Array.getElem?_setIfInBounds]
  by_cases e:x=j
  ·rw[if_pos e.symm,if_pos jsz,if_pos e]
  ·rw[if_neg (Ne.symm e),if_neg e]
 refine⟨by rw[Array.size_setIfInBounds]; exact L.sz,by rw[List.length_append,List.length_append,L.ln]; rfl,fun i j' e=>?_,fun j' i e=>?_,fun i j' h' e1 e2=>?_⟩
 ·rw[get]
  by_cases hi:i<js.length
  ·rw[List.getElem?_append_left hi] at e
   have:=L.own i j' e
   rw[if_neg (fun z=>by rw[z,hfree] at this; cases this)]
   exact this
  ·rw[List.getElem?_append_right (by omega)] at e
   have:i=js.length:=by
    have:=(List.getElem?_eq_some_iff.mp e).1
    simp at this
    omega
   subst this
   rw[Nat.sub_self] at e
   cases e
   rw[if_pos rfl,L.ln]
 ·rw[get] at e
  by_cases z:j'=j
  ·rw[if_pos z] at e
   cases e
   rw[List.getElem?_append_right (by rw[L.ln]; exact Nat.le_refl _),L.ln,Nat.sub_self,z]
   rfl
  ·rw[if_neg z] at e
   have:=L.bk j' i e
   rw[List.getElem?_append_left (List.getElem?_eq_some_iff.mp this).1]
   exact this
 ·have keep:∀ x:Nat,(∃ i':Nat,owner[x]?=some (some i'))->∃ i':Nat,(owner.setIfInBounds j (some hs.length))[x]?=some (some i'):=fun x ⟨i',hx⟩=>by
   rw[get]
   by_cases z:x=j
   ·exact⟨_,if_pos z⟩
   ·exact⟨i',by rw[if_neg z]; exact hx⟩
  by_cases hi:i<hs.length
  ·rw[List.getElem?_append_left hi] at e1
   rw[List.getElem?_append_left (by rw[L.ln]; exact hi)] at e2
   obtain⟨m',b1,b2⟩:=L.way i j' h' e1 e2
   exact⟨m',b1,fun l hl=>keep _ (b2 l hl)⟩
  ·rw[List.getElem?_append_right (by omega)] at e1
   have:i=hs.length:=by
    have:=(List.getElem?_eq_some_iff.mp e1).1
    simp at this
    omega
   subst this
   rw[Nat.sub_self] at e1
   cases e1
   rw[List.getElem?_append_right (by rw[L.ln]; exact Nat.le_refl _),L.ln,Nat.sub_self] at e2
   cases e2
   refine⟨m,hj,fun l hl=>keep _ ?_⟩
   have hl':=Well.jle (t:=tm mask) hm (Well.adv (t:=tm mask) hm l w)
   exact getD_some (by rw[L.sz]; omega) (a3 l hl)
end STb
namespace STb
open PySem
def lstep (mask:Nat) (acc:Option (Array (Option Nat)×Nat)) (h:Int):Option (Array (Option Nat)×Nat):=do
 let (owner,k) ← acc
 let j ← SetTable.layClean.free mask owner (SetTable.turns mask) (SetTable.bits h % (mask+1)) (SetTable.bits h)
 pure (owner.setIfInBounds j (some k),k+1)
theorem laid_fold {mask k:Nat} (hm:mask+1=2 ^ k):∀ (rest dn:List Int) {owner:Array (Option Nat)} {js:List Nat},Laid mask k owner dn js->dn.length+rest.length<=mask+1 ->
  ∃ owner' js',rest.foldl (lstep mask) (some (owner,dn.length))=some (owner',(dn++rest).length)/\Laid mask k owner' (dn++rest) js'
 | [],dn,owner,js,L,h=>⟨owner,js,by simp,by rw[List.append_nil]; exact L⟩
 | x::rest,dn,owner,js,L,h=>by
  rw[List.length_cons] at h
  obtain⟨j,e,L'⟩:=laid_step hm L (by omega) x
  obtain⟨owner',js',e',L''⟩:=laid_fold hm rest (dn++[x]) L' (by rw[List.length_append]; simp; omega)
  refine⟨owner',js',?_,by rw[List.append_assoc] at L''; exact L''⟩
  rw[List.foldl_cons]
  have:lstep mask (some (owner,dn.length)) x=some (owner.setIfInBounds j (some dn.length),(dn++[x]).length):=by
   unfold lstep
   simp[e]
  rw[this,e',List.append_assoc]
  rfl
theorem clean_ok {mask k:Nat} (hm:mask+1=2 ^ k) (hashes:Array Int) (h:hashes.size<=mask+1):∃ owner js,SetTable.layClean mask hashes=some owner/\Laid mask k owner hashes.toList js:=by
 have L0:Laid mask k (Array.replicate (mask+1) none) [] []:=by
  refine⟨Array.size_replicate,rfl,fun i j e=>(by cases e),fun j i e=>?_,fun i j h e=>(by cases e)⟩
  rw[Array.getElem?_replicate] at e
  split at e <;> cases e
 obtain⟨owner,js,e,L⟩:=laid_fold hm hashes.toList [] L0 (by simpa using h)
 refine⟨owner,js,?_,by simpa using L⟩
 unfold SetTable.layClean
 rw[<-Array.foldl_toList]
 have e2:List.foldl (lstep mask) (some (Array.replicate (mask+1) none,0)) hashes.toList=some (owner,([]++hashes.toList).length):=e
 show Option.map (·.1) (List.foldl (lstep mask) (some (Array.replicate (mask+1) none,0)) hashes.toList)=some owner
 rw[e2]
 rfl
def liveOf (mask:Nat) (owner:Array (Option Nat)):List (Nat×Nat):=(List.range (mask+1)).filterMap fun j=>(owner.getD j none).map (j,·)
theorem mem_live {mask k:Nat} {owner:Array (Option Nat)} {hs:List Int} {js:List Nat} (L:Laid mask k owner hs js) {j i:Nat}:(j,i)∈liveOf mask owner↔owner[j]?=some (some i):=by
 unfold liveOf
 rw[List.mem_filterMap]
 constructor
 ·rintro ⟨x,hx,e⟩
  obtain⟨y,h1,h2⟩:=Option.map_eq_some_iff.mp e
  cases h2
  have hj:j<owner.size:=by rw[L.sz]; exact List.mem_range.mp hx
  rw[Array.getD,dif_pos hj] at h1
  rw[Array.getElem?_eq_getElem hj]
  exact congrArg some h1
 ·intro e
  have hj:=(Array.getElem?_eq_some_iff.mp e).1
  refine⟨j,List.mem_range.mpr (by rw[<-L.sz]; exact hj),?_⟩
  rw[Array.getD,dif_pos hj]
  have:=(Array.getElem?_eq_some_iff.mp e).2
  show Option.map (fun x=>(j,x)) owner[j]=some (j,i)
  rw[this]
  rfl
theorem live_rise (mask:Nat) (owner:Array (Option Nat)):(liveOf mask owner).Pairwise fun a b=>a.1<b.1:=by
 unfold liveOf
 rw[List.pairwise_filterMap]
 refine List.Pairwise.imp ?_ (List.pairwise_lt_range (n:=mask+1))
 intro a b hab x hx y hy
 obtain⟨_,_,rfl⟩:=Option.map_eq_some_iff.mp hx
 obtain⟨_,_,rfl⟩:=Option.map_eq_some_iff.mp hy
 exact hab
theorem perm_range {l:List Nat} {n:Nat} (nd:l.Nodup) (h:∀ i,i∈l↔i<n):l.Perm (List.range n):=
 (List.perm_ext_iff_of_nodup nd List.nodup_range).mpr fun i=>by rw[h i,List.mem_range]
theorem laid_ok {mask k:Nat} (hm:mask+1=2 ^ k) (finger moves:Nat) (led plain:Bool) (hashes:Array Int) (h:hashes.size<=mask) :
  ∃ t' order,SetTable.laid mask finger moves led plain hashes=some (t',order)/\Ok t' k/\t'.mask=mask/\t'.led=led/\t'.plain=plain/\t'.place.size=hashes.size/\order.toList.Perm (List.range hashes.size) /\
   Found t' (order.toList.map fun i=>hashes.getD i 0):=by
 obtain⟨owner,js,e,L⟩:=clean_ok hm hashes (by omega)
 have hl:hashes.toList.length=hashes.size:=Array.length_toList
 have jn:js.Nodup:=by
  unfold List.Nodup
  rw[List.pairwise_iff_getElem]
  intro a b ha hb hab ee
  have h1:=L.own a _ (List.getElem?_eq_getElem ha)
  have h2:=L.own b _ (List.getElem?_eq_getElem hb)
  rw[ee,h2] at h1
  injection h1 with h1
  injection h1 with h1
  omega
 refine⟨{ mask,place:=((liveOf mask owner).map (·.1)).toArray,dummies:=#[],finger,led,moves,plain },((liveOf mask owner).map (·.2)).toArray,?_,?_⟩
 ·unfold SetTable.laid
  rw[e]
  rfl
 have rise:Rise ((liveOf mask owner).map (·.1)).toArray:=by
  intro i j a b hij ea eb
  rw[List.getElem?_toArray,List.getElem?_map] at ea eb
  obtain⟨x,hx,rfl⟩:=Option.map_eq_some_iff.mp ea
  obtain⟨y,hy,rfl⟩:=Option.map_eq_some_iff.mp eb
  have h1:=List.pairwise_iff_getElem.mp (live_rise mask owner) i j (List.getElem?_eq_some_iff.mp hx).1 (List.getElem?_eq_some_iff.mp hy).1 hij
  rw[(List.getElem?_eq_some_iff.mp hx).2,(List.getElem?_eq_some_iff.mp hy).2] at h1
  exact h1
 have lmem:∀ {i:Nat} {x:Nat×Nat},(liveOf mask owner)[i]?=some x->js[x.2]?=some x.1:=fun {i x} hx=>L.bk x.1 x.2 ((mem_live L).mp (List.mem_of_getElem? hx))
 have pm:((liveOf mask owner).map (·.2)).Perm (List.range hashes.size):=by
  refine perm_range ?_ fun i=>?_
  ·unfold List.Nodup
   rw[List.pairwise_map]
   refine List.Pairwise.imp_of_mem ?_ (live_rise mask owner)
   intro a b ha hb hab ee
   have h1:=L.bk a.1 a.2 ((mem_live L).mp ha)
   have h2:=L.bk b.1 b.2 ((mem_live L).mp hb)
   rw[ee,h2] at h1
   injection h1 with h1
   omega
  ·rw[List.mem_map]
   constructor
   ·rintro ⟨x,hx,rfl⟩
    have h1:=L.bk x.1 x.2 ((mem_live L).mp hx)
    have:=(List.getElem?_eq_some_iff.mp h1).1
    rw[L.ln,hl] at this
    exact this
   ·intro hi
    have hi':i<js.length:=by rw[L.ln,hl]; exact hi
    exact⟨(js[i],i),(mem_live L).mpr (L.own i _ (List.getElem?_eq_getElem hi')),rfl⟩
 have psz:((liveOf mask owner).map (·.1)).toArray.size=hashes.size:=by
  rw[List.size_toArray,List.length_map]
  have:=pm.length_eq
  rw[List.length_map,List.length_range] at this
  exact this
 have o:Ok { mask,place:=((liveOf mask owner).map (·.1)).toArray,dummies:=#[],finger,led,moves,plain } k:=by
  refine⟨rise,fun i a ea=>?_,rfl,hm,?_⟩
  ·rw[List.getElem?_toArray,List.getElem?_map] at ea
   obtain⟨x,hx,rfl⟩:=Option.map_eq_some_iff.mp ea
   have h1:=(mem_live L).mp (List.mem_of_getElem? hx)
   have:=(Array.getElem?_eq_some_iff.mp h1).1
   rw[L.sz] at this
   omega
  ·show ((liveOf mask owner).map (·.1)).toArray.size<=mask
   rw[psz]
   exact h
 refine⟨o,rfl,rfl,rfl,psz,by simpa using pm,?_⟩
 intro i j x e1 e2
 have e2':((liveOf mask owner).map (·.1)).toArray[i]?=some j:=e2
 rw[List.getElem?_toArray,List.getElem?_map] at e2'
 obtain⟨y,hy,rfl⟩:=Option.map_eq_some_iff.mp e2'
 have e1':(((liveOf mask owner).map (·.2)).map fun i=>hashes.getD i 0)[i]?=some x:=by simpa using e1
 rw[List.getElem?_map,List.getElem?_map,hy] at e1'
 have ex:hashes.getD y.2 0=x:=by
  injection e1'
 have hj:=lmem hy
 have hy2:y.2<hashes.size:=by
  have:=(List.getElem?_eq_some_iff.mp hj).1
  rw[L.ln,hl] at this
  exact this
 have hh:hashes.toList[y.2]?=some x:=by
  rw[Array.getElem?_toList,Array.getElem?_eq_getElem hy2,← ex]
  simp[Array.getD,hy2]
 obtain⟨m,a1,a2⟩:=L.way y.2 y.1 x hh hj
 have em:(tm mask).mask=({ mask,place:=((liveOf mask owner).map (·.1)).toArray,dummies:=#[],finger,led,moves,plain }:SetTable).mask:=rfl
 refine⟨m,by rw[<-adv_mask em,← start_mask em]; exact a1,fun l hl'=>?_⟩
 rw[<-adv_mask em,← start_mask em]
 obtain⟨i',hi'⟩:=a2 l hl'
 intro ee
 have hno:=(slot_empty o).mp ee
 have hmem:=(mem_live L).mpr hi'
 obtain⟨r,hr⟩:=List.getElem?_of_mem hmem
 refine hno r ?_
 show ((liveOf mask owner).map (·.1)).toArray[r]?=_
 rw[List.getElem?_toArray,List.getElem?_map,hr]
 rfl
theorem above_go:∀ (fuel k n:Nat),n<2 ^ (k+fuel)->∃ k',k<=k'/\SetTable.sizeAbove.go n fuel (2 ^ k)=2 ^ k'/\n<2 ^ k'
 | 0,k,n,h=>⟨k,Nat.le_refl _,rfl,by simpa using h⟩
 | fuel+1,k,n,h=>by
  rw[SetTable.sizeAbove.go]
  by_cases c:2 ^ k<=n
  ·rw[if_pos c]
   obtain⟨k',h1,h2,h3⟩:=above_go fuel (k+1) n (by rw[show k+1+fuel=k+(fuel+1) by omega]; exact h)
   exact⟨k',by omega,by rw[<-Nat.pow_succ]; exact h2,h3⟩
  ·rw[if_neg c]
   exact⟨k,Nat.le_refl _,rfl,by omega⟩
theorem above_ok {n:Nat} (h:n<2 ^ 67):∃ k',3<=k'/\SetTable.sizeAbove n=2 ^ k'/\n<2 ^ k':=above_go 64 3 n h
end STb
namespace L3
open PySem PySem.Spec PyProof.Rows L2
section
variable {P:Program} {w:World} {A:Around} {E:Value->Shared->Prop} {s:Shared} {t:List Int} {b:Addr}
end
end L3
namespace L3
open PySem PySem.Spec PyProof.Rows L2
structure NiceT (byText:Bool) (t:SetTable) (es:Array (Int×Value)) (k:Nat):Prop where
 ok:STb.Ok t k
 k3:3<=k
 sz:t.place.size=es.size
 fd:STb.Found t (es.toList.map (·.1))
 nf:es.size*5<t.mask*3
 mx:t.mask<=7+8*es.size
 pl:t.plain=true
 ld:t.led=!byText
theorem NiceT.fits {b:Bool} {t:SetTable} {es:Array (Int×Value)} {k:Nat} (n:NiceT b t es k):t.fits es.size=true:=by
 have h1:=n.sz
 have h2:=n.ok.room
 have h3:=n.ok.nod
 unfold SetTable.fits SetTable.fill
 rw[h1,h3]
 simp
 omega
section
variable {P:Program} {w:World} {A:Around} {E:Value->Shared->Prop} {s:Shared} {a:Addr} {o:Obj} {es:Array (Int×Value)} {ep:Nat} {t:SetTable} {k:Nat} {ts:List (List Int)} {tx:List Int} {bx:Addr} {C:Addr->List Int->Prop}
theorem least_empty (ok:STb.Ok t k) (h:Int):∃ m,m<10*SetTable.turns t.mask/\t.slot (STb.adv t m (t.probeStart h)).j=.empty/\∀ l,l<m->t.slot (STb.adv t l (t.probeStart h)).j≠.empty:=by
 obtain⟨m,h1,h2⟩:=STb.meets_empty ok (STb.Well.start ok.mask h)
 have key:∀ n,(∃ m,m<=n/\t.slot (STb.adv t m (t.probeStart h)).j=.empty)->∃ m,m<=n/\t.slot (STb.adv t m (t.probeStart h)).j=.empty/\∀ l,l<m->t.slot (STb.adv t l (t.probeStart h)).j≠.empty:=by
  intro n
  induction n with
  | zero=>
   rintro ⟨m,hm,e⟩
   have:m=0:=by omega
   subst this
   exact⟨0,Nat.le_refl _,e,fun l hl=>absurd hl (by omega)⟩
  | succ n ih=>
   rintro ⟨m,hm,e⟩
   by_cases z:∃ m,m<=n/\t.slot (STb.adv t m (t.probeStart h)).j=.empty
   ·obtain⟨m',a1,a2,a3⟩:=ih z
    exact⟨m',by omega,a2,a3⟩
   ·refine⟨m,hm,e,fun l hl el=>z ⟨l,by omega,el⟩⟩
 obtain⟨m',a1,a2,a3⟩:=key m ⟨m,Nat.le_refl _,h2⟩
 exact⟨m',by omega,a2,a3⟩
end
end L3
namespace STb
open PySem
theorem above_le:∀ (fuel k n:Nat),SetTable.sizeAbove.go n fuel (2 ^ k)<=2 ^ k\/SetTable.sizeAbove.go n fuel (2 ^ k)<=2*n
 | 0,k,n=>.inl (Nat.le_refl _)
 | fuel+1,k,n=>by
  rw[SetTable.sizeAbove.go]
  by_cases c:2 ^ k<=n
  ·rw[if_pos c,← Nat.pow_succ]
   rcases above_le fuel (k+1) n with z | z
   ·right
    rw[Nat.pow_succ] at z ⊢
    omega
   ·exact .inr z
  ·rw[if_neg c]
   exact .inl (Nat.le_refl _)
theorem above_small (n:Nat):SetTable.sizeAbove n<=8\/SetTable.sizeAbove n<=2*n:=above_le 64 3 n
end STb
namespace L3
open PySem PySem.Spec PyProof.Rows L2
theorem getD_hs {es:Array (Int×Value)} {i:Nat} {e:Int×Value} (h:es[i]?=some e):(es.map (·.1)).getD i 0=e.1:=by
 have hi:=(Array.getElem?_eq_some_iff.mp h).1
 have he:=(Array.getElem?_eq_some_iff.mp h).2
 simp[Array.getD,hi,he]
section
variable {P:Program} {w:World} {A:Around} {E:Value->Shared->Prop} {s:Shared} {a:Addr} {o:Obj} {es:Array (Int×Value)} {ep:Nat} {t:SetTable} {ts:List (List Int)} {tx:List Int} {bx:Addr} {C:Addr->List Int->Prop}
end
end L3
namespace L3
open PySem PySem.Spec PyProof.Rows L2
def set0 (w:World):Obj:={ cls:=.type "set",dict:=none,data:=.set #[] 0 (.fresh 0 0 (!w.params.followText "set-order")) }
section
variable {P:Program} {w:World} {A:Around} {E:Value->Shared->Prop} {s:Shared} {C:Addr->List Int->Prop}
theorem new_set0 {x:Value} {Q:Value->Shared->Prop} (q:Q (.ref s.heap.objs.size) { s with heap:=s.heap.push (set0 w) }):codeAny (model P w) A (.call (.builtin "set.__new__") ⟨[.type "set",x],[]⟩) (wants Q E) s:=by
 refine codeAny_of_tree (show wpAny _ A.in1 (do checkBuiltinCall "set.__new__" ⟨[.type "set",x],[]⟩; again (.builtin "set.__new__" ⟨[.type "set",x],[]⟩)) _ _ s from ?_)
 refine wpAny_bind (wpAny_of_eq (PySem.F.newCall_set_1 x) (wpAny_pure ⟨plainId_quiet PySem.F.plain_set_new _,codeAny_builtin PySem.F.entry_set_new ?_⟩))
 rw[Around.under_plainId PySem.F.plain_set_new _]; unfold Builtin.«set.__new__» Builtin.Frozenset.newClass; have hsub:=PySem.sub_set_self
 obtain⟨hp,g,d,tk,os⟩:=s; dsimp only; wp_walk
 refine wpAny_askSetting (wpAny_pure ?_)
 dsimp only; simp only[newObj]
 exact wpAny_bind (wpAny_alloc (wpAny_pure (wpAny_pure q)))
end
end L3
namespace L3
open PySem PySem.Spec PyProof.Rows L2
section
variable {P:Program} {w:World} {A:Around} {E:Value->Shared->Prop} {s:Shared} {C:Addr->List Int->Prop}
end
end L3
namespace L3
open PySem PySem.Spec PyProof.Rows L2
theorem si_owner:Manifest.owners.lookup (String.ofList (['r','o','t','a','r','e','t','i','_','t','e','s']:List Char).reverse)=some Manifest.sig_set_iterator:=by kernel_rfl
theorem si_next:Slot "set_iterator" "__next__" "set_iterator.__next__" := .of (owner := "set_iterator") (n := "__next__") (by rw[typeLookup_type,builtinLookup_eq_fast]; kernel_rfl) (by decide +kernel) (by decide +kernel) (by decide +kernel) (by first | exact .inl (by decide +kernel) | exact .inr (by decide +kernel)) (by rw[isSubtype_type]; kernel_rfl)
theorem si_self:Slot "set_iterator" "__iter__" "set_iterator.__iter__" := .of (owner := "set_iterator") (n := "__iter__") (by rw[typeLookup_type,builtinLookup_eq_fast]; kernel_rfl) (by decide +kernel) (by decide +kernel) (by decide +kernel) (by first | exact .inl (by decide +kernel) | exact .inr (by decide +kernel)) (by rw[isSubtype_type]; kernel_rfl)
theorem si_entry:entryFor table "set_iterator.__next__" = some Builtin.«set_iterator.__next__»:=entryFor_of_tree (by kernel_rfl)
theorem si_args (a:Value):argsOk "set_iterator.__next__" ⟨[a],[]⟩:=by
 unfold argsOk; rw[signature?_of (id := "set_iterator.__next__") (n:=['_','_','t','x','e','n','_','_']) (o:=['r','o','t','a','r','e','t','i','_','t','e','s']) (by kernel_rfl) si_owner]; kernel_rfl
theorem si_make:entryFor table "set.__iter__" = some Builtin.«frozenset.__iter__»:=entryFor_alias (id' := "frozenset.__iter__") (by kernel_rfl) rfl (by decide +kernel) (by kernel_rfl)
def walkOf (w:World) (d ep:Nat) (es:Array (Int×Value)):Array (Int×Value):=if w.params.followText "set-order" = true then pickOrder (w.params.setOrder d ep) es else es
theorem out_perm {α:Type}:∀ (l:List α) (i:Nat) (h:i<l.length),(l[i]::l.eraseIdx i).Perm l
 | x::l,0,h=>List.Perm.refl _
 | x::l,i+1,h=>by
  have:=out_perm l i (by simpa using h)
  rw[List.eraseIdx_cons_succ,List.getElem_cons_succ]
  exact (List.Perm.swap _ _ _).trans (List.Perm.cons x this)
theorem pick_go {α:Type} (f:Nat->Nat):∀ (fuel k:Nat) (left:List α) (out:Array α),left.length<=fuel->(pickOrder.go f fuel k left out).toList.Perm (out.toList++left)
 | 0,k,[],out,_=>by rw[pickOrder.go,List.append_nil]
 | 0,k,x::l,out,h=>absurd h (by simp)
 | fuel+1,k,[],out,_=>by
  rw[pickOrder.go]
  rw[show ([]:List α)[f k % ([]:List α).length]?=none from rfl,List.append_nil]
 | fuel+1,k,x::l,out,h=>by
  rw[pickOrder.go]
  have hi:f k % (x::l).length<(x::l).length:=Nat.mod_lt _ (by simp)
  rw[List.getElem?_eq_getElem hi]
  dsimp only
  refine (pick_go f fuel (k+1) _ _ (by rw[List.length_eraseIdx_of_lt hi]; simp at h ⊢; omega)).trans ?_
  rw[Array.toList_push,List.append_assoc]
  refine List.Perm.append_left _ ?_
  exact out_perm _ _ hi
theorem pick_perm {α:Type} (f:Nat->Nat) (xs:Array α):(pickOrder f xs).toList.Perm xs.toList:=by
 unfold pickOrder
 have:=pick_go f xs.size 0 xs.toList #[] (by rw[Array.length_toList]; exact Nat.le_refl _)
 simpa using this
theorem walk_perm (w:World) (d ep:Nat) (es:Array (Int×Value)):(walkOf w d ep es).toList.Perm es.toList:=by
 unfold walkOf
 split
 ·exact pick_perm _ _
 ·exact List.Perm.refl _
theorem walk_size (w:World) (d ep:Nat) (es:Array (Int×Value)):(walkOf w d ep es).size=es.size:=by
 rw[<-Array.length_toList,(walk_perm w d ep es).length_eq,Array.length_toList]
end L3
namespace L3
open PySem PySem.Spec PyProof.Rows L2
def IsSetIter (h:Heap) (I:Addr) (slot i:Nat) (d:Addr) (n ep:Nat):Prop:=∃ o,h.get? I=some o/\o.cls=.type "set_iterator" /\ o.data=.fields #[.int slot 0,.int i 0,.ref d,.int n 0,.int ep 0]
theorem IsSetIter.typeIs {s:Shared} {I d:Addr} {slot i n ep:Nat} (h:IsSetIter s.heap I slot i d n ep):s.TypeIs (.ref I) "set_iterator" := let ⟨o,h1,h2,_⟩:=h; ⟨o,h1,h2⟩
def SetO (w:World) (h:Heap) (d:Addr) (es:Array (Int×Value)) (ep:Nat) (t:SetTable):Prop:=∃ o k,h.get? d=some o/\o.ExactSet/\o.data=.set es ep t/\NiceT (w.params.followText "set-order") t es k
theorem SetO.typeIs {w:World} {s:Shared} {d:Addr} {es:Array (Int×Value)} {ep:Nat} {t:SetTable} (h:SetO w s.heap d es ep t):s.TypeIs (.ref d) "set" := let ⟨o,_,h1,h2,_⟩:=h; ⟨o,h1,h2.1⟩
theorem SetO.at {w:World} {h h':Heap} {d:Addr} {es:Array (Int×Value)} {ep:Nat} {t:SetTable} (x:SetO w h d es ep t) (k:∀ o,h.get? d=some o->h'.get? d=some o):SetO w h' d es ep t:=let ⟨o,kk,h1,h2⟩:=x; ⟨o,kk,k o h1,h2⟩
section
variable {P:Program} {w:World} {A:Around} {E:Value->Shared->Prop} {s:Shared} {d I:Addr} {es:Array (Int×Value)} {ep:Nat} {t:SetTable}
theorem set_iter {Q:Value->Shared->Prop} (S:SetO w s.heap d es ep t)
  (q:Q (.ref s.heap.objs.size) { s with heap:=s.heap.push { cls:=.type "set_iterator",data:=.fields #[.int 0 0,.int 0 0,.ref d,.int es.size 0,.int ep 0] } }):wpAny (model P w) A (pyIter (.ref d)) Q E s:=by
 have hT:=S.typeIs
 obtain⟨o,k,ho,hex,hd,N⟩:=id S
 refine wpAny_pyIter_slot hT PySem.F.slot_set_iter (wpAny_call_entry PySem.F.slot_set_iter hT si_make ?_ (PySem.F.args_set_iter_1 _))
 unfold Builtin.«frozenset.__iter__»
 refine wpAny_bind (show wpAny _ _ (pure d) _ _ s from wpAny_pure ?_)
 unfold Builtin.Frozenset.sizeOf
 refine wpAny_bind (wpAny_bind (wpAny_setEntries_of ho hd N.fits (wpAny_pure ?_)))
 unfold setDrawn setsByText
 refine wpAny_bind (wpAny_bind (wpAny_setState_of ho hd N.fits (wpAny_bind (wpAny_bind (wpAny_askSetting (wpAny_pure ?_))))))
 dsimp only
 refine wpAny_pure (wpAny_ite ?_)
 split
 ·rename_i hdr
  exact absurd (show ((!w.params.followText "set-order")&&(!t.plain&&decide (es.size>1)))=true from hdr) (by rw[N.pl]; simp)
 ·refine wpAny_bind (wpAny_pure (wpAny_bind (wpAny_setEpoch_of ho hd N.fits ?_)))
  refine wpAny_bind (wpAny_newObj_type (wpAny_pure ⟨_,rfl, "set_iterator",_,⟨_,Heap.get?_push_size _ rfl,rfl⟩,si_next.lookup,?_⟩))
  simpa [rawInt] using q
theorem below_next {xs:Array Nat} {i j:Nat} (R:STb.Rise xs) (h:xs[i]?=some j):SetTable.below xs (j+1)=i+1:=by
 obtain⟨h1,h2,h3⟩:=STb.below_at (j:=j+1) R
 have hi:=(Array.getElem?_eq_some_iff.mp h).1
 rcases Nat.lt_trichotomy (SetTable.below xs (j+1)) (i+1) with z | z | z
 ·have:=h3 i j (by omega) h
  omega
 ·exact z
 ·have hl:i+1<xs.size:=by omega
  have e:=Array.getElem?_eq_getElem hl
  have a1:=h2 (i+1) _ z e
  have a2:=R i (i+1) _ _ (by omega) h e
  omega
theorem walk_text {i:Nat} (b:w.params.followText "set-order" = true):walkOf w d ep es=pickOrder (w.params.setOrder d ep) es:=if_pos b
theorem walk_es (b:¬ w.params.followText "set-order" = true):walkOf w d ep es=es:=if_neg b
theorem setNext_at {slot i:Nat} {Q:Option (Value×Nat)->Shared->Prop} (S:SetO w s.heap d es ep t) (hw:w.params.followText "set-order" = true\/SetTable.below t.place slot=i)
  (q:∀ r:Option (Value×Nat),((walkOf w d ep es)[i]?=none->r=none)->(∀ e,(walkOf w d ep es)[i]?=some e->∃ slot',r=some (e.2,slot')/\(w.params.followText "set-order" = true\/SetTable.below t.place slot'=i+1))->Q r s):wpAny (model P w) A (setNext d slot i ep) Q E s:=by
 obtain⟨o,k,ho,hex,hd,N⟩:=id S
 unfold setNext
 refine wpAny_bind (wpAny_setState_of ho hd N.fits ?_)
 dsimp only
 have hbt:(setsByText:Sem Bool)=(do return (← ask).params.followText "set-order"):=rfl
 rw[hbt]
 refine wpAny_bind (wpAny_bind (wpAny_askSetting (wpAny_pure ?_)))
 refine wpAny_ite ?_
 split
 ·rename_i b
  have b':w.params.followText "set-order" = true:=b
  rw[if_neg (by simp)]
  unfold setWalk
  refine wpAny_bind (wpAny_bind (wpAny_setState_of ho hd N.fits ?_))
  dsimp only
  rw[hbt]
  refine wpAny_bind (wpAny_bind (wpAny_askSetting (wpAny_pure (wpAny_ite ?_))))
  rw[if_pos b]
  refine wpAny_bind (wpAny_askSetting (wpAny_pure (wpAny_pure (q _ (fun hn=>?_) (fun e he=>?_)))))
  ·rw[walk_text (i:=0) b'] at hn
   show Option.map _ (pickOrder (w.params.setOrder d ep) es)[i]?=none
   rw[hn]; rfl
  ·rw[walk_text (i:=0) b'] at he
   refine⟨slot,?_,.inl b'⟩
   show Option.map _ (pickOrder (w.params.setOrder d ep) es)[i]?=_
   rw[he]; rfl
 ·rename_i b
  have b':¬ w.params.followText "set-order" = true:=b
  have hb:SetTable.below t.place slot=i:=hw.resolve_left b'
  refine wpAny_ite ?_
  split
  ·rename_i hdr
   exact absurd (show (!t.plain&&decide (es.size>1))=true from hdr) (by rw[N.pl]; simp)
  ·have led:t.led=true:=by rw[N.ld]; simp[b']
   refine wpAny_bind (show wpAny _ _ (ite _ _ _) _ _ _ from wpAny_ite ?_)
   rw[if_neg (by rw[led]; simp)]
   refine wpAny_pure (wpAny_pure ?_)
   rw[hb]
   refine q _ (fun hn=>?_) (fun e he=>?_)
   ·rw[walk_es b'] at hn
    rw[hn]
   ·rw[walk_es b'] at he
    have hi:=(Array.getElem?_eq_some_iff.mp he).1
    have hpl:t.place[i]?=some (t.place[i]'(by rw[N.sz]; exact hi)):=Array.getElem?_eq_getElem _
    rw[he,hpl]
    exact⟨_,rfl,.inr (below_next N.ok.rise hpl)⟩
theorem set_next {slot i:Nat} {Q:Option Value->Shared->Prop} (hit:IsSetIter s.heap I slot i d es.size ep) (S:SetO w s.heap d es ep t) (hne:d≠I) (hw:w.params.followText "set-order" = true\/SetTable.below t.place slot=i) {e:Int×Value} (he:(walkOf w d ep es)[i]?=some e)
  (q:∀ h' slot',IsSetIter h' I slot' (i+1) d es.size ep->(w.params.followText "set-order" = true\/SetTable.below t.place slot'=i+1)->Heap.SameBut I s.heap h'->Q (some e.2) { s with heap:=h' }):wpAny (model P w) A (pyNext (.ref I)) Q E s:=by
 have hT:=S.typeIs
 obtain⟨o,k,ho,hex,hd,N⟩:=id S
 obtain⟨oi,hi1,hi2,hi3⟩:=id hit
 unfold pyNext
 refine wpAny_bind (wpAny_attempt (wpAny_callSpecial?_slot (name:=Str.ofString "__next__") hit.typeIs si_next (wpAny_call_entry si_next hit.typeIs si_entry ?_ (si_args _))))
 unfold Builtin.«set_iterator.__next__»
 refine wpAny_bind (show wpAny _ _ (pure (Value.ref I,[])) _ _ s from wpAny_pure ?_)
 refine wpAny_bind (wpAny_fieldsOf hi1 hi3 ?_)
 refine wpAny_bind (wpAny_setEntries_of ho hd N.fits (wpAny_ite ?_))
 rw[if_neg (by simp)]
 simp only[Int.toNat_natCast]
 refine wpAny_bind (setNext_at S hw fun r hn hs=>?_)
 obtain⟨slot',rfl,hw'⟩:=hs e he
 dsimp only
 refine wpAny_bind (wpAny_setField hi1 hi3 (by simp) ?_)
 have g1:(s.heap.update I (Obj.mapFields (·.setIfInBounds 0 (rawInt slot')))).get? I=some (Obj.mapFields (·.setIfInBounds 0 (rawInt slot')) oi):=Heap.get?_update_self _ hi1 (Obj.isFreed_of_fields (Obj.data_mapFields hi3 _))
 have g2:(Obj.mapFields (·.setIfInBounds 0 (rawInt slot')) oi).data=.fields #[.int slot' 0,.int i 0,.ref d,.int es.size 0,.int ep 0]:=by rw[Obj.data_mapFields hi3]; simp[rawInt]
 refine wpAny_bind (wpAny_setField (s:={ s with heap:=_ }) g1 g2 (by simp) ?_)
 refine wpAny_pure ⟨_,rfl,wpAny_pure (q _ slot' ⟨_,Heap.get?_update_self _ g1 (Obj.isFreed_of_fields (Obj.data_mapFields g2 _)),?_,?_⟩ hw' ((Heap.SameBut.update ..).trans (Heap.SameBut.update ..)))⟩
 ·rw[Obj.cls_mapFields,Obj.cls_mapFields]; exact hi2
 ·rw[Obj.data_mapFields g2]; simp[rawInt]
theorem set_end {slot i:Nat} {Q:Option Value->Shared->Prop} (hh:A.handled=none) (hit:IsSetIter s.heap I slot i d es.size ep) (S:SetO w s.heap d es ep t) (hw:w.params.followText "set-order" = true\/SetTable.below t.place slot=i) (he:(walkOf w d ep es)[i]?=none)
  (q:∀ h',Heap.ExtBut I s.heap h'->Q none { s with heap:=h' }):wpAny (model P w) A (pyNext (.ref I)) Q E s:=by
 have hT:=S.typeIs
 obtain⟨o,k,ho,hex,hd,N⟩:=id S
 obtain⟨oi,hi1,hi2,hi3⟩:=id hit
 unfold pyNext
 refine wpAny_bind (wpAny_attempt (wpAny_callSpecial?_slot (name:=Str.ofString "__next__") hit.typeIs si_next (wpAny_call_entry si_next hit.typeIs si_entry ?_ (si_args _))))
 unfold Builtin.«set_iterator.__next__»
 refine wpAny_bind (show wpAny _ _ (pure (Value.ref I,[])) _ _ s from wpAny_pure ?_)
 refine wpAny_bind (wpAny_fieldsOf hi1 hi3 ?_)
 refine wpAny_bind (wpAny_setEntries_of ho hd N.fits (wpAny_ite ?_))
 rw[if_neg (by simp)]
 simp only[Int.toNat_natCast]
 refine wpAny_bind (setNext_at S hw fun r hn hs=>?_)
 obtain rfl:=hn he
 dsimp only
 refine wpAny_bind (wpAny_setField hi1 hi3 (by simp) ?_)
 refine (show wpAny _ _ (newExc (.type "StopIteration") [] >>= _) _ _ _ from wpAny_bind ?_)
 simp only[newExc,newTuple]; refine wpAny_bind (wpAny_newObj_type ?_ (by size_fits))
 refine wpAny_bind (m:=firstArgMember _ _) (wpAny_of_eq (a:=Value.none) (by first | rfl | (simp only[firstArgMember]; rfl)) (wpAny_newObj_type ?_ (by size_fits)))
 simp only[raiseNew]; refine wpAny_bind (wpAny_handled ?_)
 rw[show A.in1.handled=none from hh]; refine wpAny_bind (wpAny_pure (wpAny_throw ?_))
 refine wpAny_bind (wpAny_isInstance (T := "StopIteration") (b:=true) ⟨_,Heap.get?_push_size _ rfl,rfl⟩ isSubtype_stop (wpAny_pure (q _ (((Heap.SameBut.update ..).extBut.push _).push _))))
end
end L3
namespace L3
open PySem PySem.Spec PyProof.Rows L2
theorem si_back:entryFor table "set_iterator.__iter__" = some Builtin.«dict_keyiterator.__iter__»:=entryFor_alias (id' := "dict_keyiterator.__iter__") (by kernel_rfl) rfl (by decide +kernel) (by kernel_rfl)
theorem si_args0 (a:Value):argsOk "set_iterator.__iter__" ⟨[a],[]⟩:=by
 unfold argsOk; rw[signature?_of (id := "set_iterator.__iter__") (n:=['_','_','r','e','t','i','_','_']) (o:=['r','o','t','a','r','e','t','i','_','t','e','s']) (by kernel_rfl) si_owner]; kernel_rfl
section
variable {P:Program} {w:World} {A:Around} {E:Value->Shared->Prop} {s:Shared} {d I:Addr} {es:Array (Int×Value)} {ep:Nat} {t:SetTable}
theorem IsSetIter.at {h h':Heap} {slot i n:Nat} (x:IsSetIter h I slot i d n ep) (k:∀ o,h.get? I=some o->h'.get? I=some o):IsSetIter h' I slot i d n ep:=let ⟨o,h1,h2⟩:=x; ⟨o,k o h1,h2⟩
def SetSt (w:World) (I d:Addr) (es:Array (Int×Value)) (ep:Nat) (t:SetTable) (i:Nat) (h:Heap):Prop:=∃ slot,IsSetIter h I slot i d es.size ep/\SetO w h d es ep t/\(w.params.followText "set-order" = true\/SetTable.below t.place slot=i)
theorem set_walk (hh:A.handled=none) (hne:d≠I):Walks P w A I [I,d] [I] es.size (fun i v=>∃ e,(walkOf w d ep es)[i]?=some e/\v=e.2) (SetSt w I d es ep t) where
 sub:=fun b hb=>by rw[List.mem_singleton.mp hb]; exact List.mem_cons_self
 frame:=fun i h h' ⟨slot,a1,a2,a3⟩ hk=>⟨slot,a1.at fun o e=>hk I List.mem_cons_self o e,a2.at fun o e=>hk d (List.mem_cons_of_mem _ List.mem_cons_self) o e,a3⟩
 item:=fun i s Q E hi ⟨slot,a1,a2,a3⟩ hQ=>by
  have he:(walkOf w d ep es)[i]?=some ((walkOf w d ep es)[i]'(by rw[walk_size]; exact hi)):=Array.getElem?_eq_getElem _
  refine set_next a1 a2 hne a3 he fun h' slot' b1 b2 b3=>?_
  exact hQ _ h' s.toks ⟨_,he,rfl⟩ ⟨slot',b1,a2.at fun o e=>(b3.2 d hne).trans e,b2⟩ fun b o hb e=>(b3.2 b fun z=>hb (by rw[z]; exact List.mem_cons_self)).trans e
 done:=fun s Q E ⟨slot,a1,a2,a3⟩ hQ=>set_end hh a1 a2 a3 (Array.getElem?_eq_none (by rw[walk_size]; exact Nat.le_refl _)) fun h' he'=>hQ h' s.toks fun b o hb e=>he' b o (fun z=>hb (by rw[z]; exact List.mem_cons_self)) e
 self:=fun i s Q E ⟨slot,a1,a2,a3⟩ hQ=>by
  refine wpAny_pyIter_slot a1.typeIs si_self (wpAny_call_entry si_self a1.typeIs si_back ?_ (si_args0 _))
  exact (show wpAny _ _ (ret (.ref I)) _ _ s from wpAny_pure ⟨_,rfl, "set_iterator",_,a1.typeIs,si_next.lookup,hQ⟩)
theorem hint_set {Q:Bool->Shared->Prop} (hT:s.TypeIs (.ref d) "set") (q:Q false s):wpAny (model P w) A (Builtin.List.listLengthHint (.ref d)) Q E s:=by
 unfold Builtin.List.listLengthHint; refine wpAny_bind (wpAny_specialOf hT PySem.F.slot_set_len.lookup ?_)
 generalize hid:("set.__len__" : String)=id0; wp_delta
 rw[show splitId id0=some ("set", "__len__") from by subst hid; decide +kernel]; subst hid
 refine wpAny_bind (wpAny_isInstance (T := "set") (b:=true) hT PySem.sub_set_self ?_)
 refine wpAny_ite_split (fun z=>absurd z (by decide)) (fun _=>wpAny_ite_split (fun _=>wpAny_bind (wpAny_typeOf hT (wpAny_pure q))) (fun z=>absurd (by decide +kernel) z))
theorem set_src:PySem.W.KdlSrc P w "set" d d es.size (fun i v=>∃ e,(walkOf w d ep es)[i]?=some e/\v=e.2) (fun h=>SetO w h d es ep t) where
 type:=fun _ m=>m.typeIs
 there:=fun h ⟨o,k,h1,_⟩=>⟨Heap.lt_size h1,Heap.lt_size h1⟩
 keep:=fun _ _ m hk=>m.at fun o e=>hk d (.inl rfl) o e
 notList:=by decide
 notTuple:=by decide
 hint:=fun _ _ _ _ m q=>hint_set m.typeIs q
 iter:=fun A s hh m=>⟨{ cls:=.type "set_iterator",data:=.fields #[.int 0 0,.int 0 0,.ref d,.int es.size 0,.int ep 0] },SetSt w s.heap.objs.size d es ep t,fun E Q q=>set_iter m q,set_walk hh (by
  obtain⟨o,k,h1,_⟩:=m
  exact Nat.ne_of_lt (Heap.lt_size h1)),0,⟨_,Heap.get?_push_size _ rfl,rfl,rfl⟩,m.at fun o e=>Heap.get?_push_of_some _ e,.inr (by
   obtain⟨o,k,h1,h2,h3,N⟩:=m
   obtain⟨b1,b2,b3⟩:=STb.below_at (j:=0) N.ok.rise
   cases hb:SetTable.below t.place 0 with
   | zero=>rfl
   | succ n=>
    have h0:0<t.place.size:=by omega
    have:=b2 0 _ (by omega) (Array.getElem?_eq_getElem h0)
    omega)⟩
end
end L3
namespace L3
open PySem PySem.Spec PyProof.Rows L2
section
variable {X:Cx}
end
end L3
namespace L3
open PySem PySem.Spec PyProof.Rows L2
section
variable {P:Program} {w:World} {K:Type} [DecidableEq K] (kn:HeapKind P w K)
variable {kn}
variable {A:Around} {E:Value->Shared->Prop} {s:Shared}
end
end L3
namespace L3
open PySem PySem.Spec PyProof.Rows L2
section
variable {P:Program} {w:World} {K:Type} [DecidableEq K] (kn:HeapKind P w K)
variable {kn}
variable {A:Around} {E:Value->Shared->Prop} {s:Shared}
end
section
variable {P:Program} {w:World} {K:Type} [DecidableEq K]
abbrev Seen:=List (Key⊕List Key)
instance:DecidableEq Seen:=inferInstanceAs (DecidableEq (List (Key⊕List Key)))
abbrev Mark:=List (Key⊕Seen)
instance:DecidableEq Mark:=@instDecidableEqList (Key⊕Seen) instDecidableEqSum
end
end L3
namespace L3
open PySem PySem.Spec PyProof.Rows L2
abbrev MK:=Int×List (List Int)
section
variable {X:Cx} {pins:List (Addr×Obj)} {σ:L2.St} {H:Hp} {s:Shared}
end
section
variable {X:Cx} {pins:List (Addr×Obj)} {σ:L2.St} {H:Hp} {s:Shared} {a:Addr} {ks:List (MK×Addr)}
end
section
variable {X:Cx} {o e f:Expr} {td ty tx:TE} {apos cpos pos:Pos}
end
end L3
namespace RM
section
variable {α:Type} [DecidableEq α]
def addU (acc:List α) (m:α):List α:=if m∈acc then acc else acc++[m]
def seenL (l:List α):List α:=l.foldl addU []
theorem seen_snoc (l:List α) (m:α):seenL (l++[m])=addU (seenL l) m:=by unfold seenL; rw[List.foldl_append]; rfl
theorem rev_ind {p:List α->Prop} (h0:p []) (hs:∀ l m,p l->p (l++[m])) (l:List α):p l:=by
 have key:∀ n,p (l.take n):=by
  intro n
  induction n with
  | zero=>simpa using h0
  | succ n ih=>
   by_cases h:n<l.length
   ·rw[List.take_add_one,List.getElem?_eq_getElem h]; exact hs _ _ ih
   ·rw[List.take_of_length_le (by omega)]; rw[List.take_of_length_le (by omega)] at ih; exact ih
 have:=key l.length
 rwa [List.take_length] at this
theorem mem_seen (l:List α) (x:α):x∈seenL l↔x∈l:=by
 refine rev_ind (p:=fun l=>x∈seenL l↔x∈l) (by simp[seenL]) (fun l m ih=>?_) l
 rw[seen_snoc]; unfold addU
 by_cases h:m∈seenL l
 ·rw[if_pos h,ih,List.mem_append,List.mem_singleton]
  constructor
  ·exact fun z=>.inl z
  ·rintro (z | rfl)
   ·exact z
   ·exact ih.mp h
 ·rw[if_neg h,List.mem_append,List.mem_append,ih]
theorem seen_len (l:List α):(seenL l).length<=l.length:=by
 refine rev_ind (p:=fun l=>(seenL l).length<=l.length) (by simp[seenL]) (fun l m ih=>?_) l
 rw[seen_snoc,List.length_append]; unfold addU
 by_cases h:m∈seenL l
 ·rw[if_pos h]; exact Nat.le_trans ih (Nat.le_add_right _ _)
 ·rw[if_neg h,List.length_append]; exact Nat.add_le_add_right ih _
end
section
variable {α:Type} [DecidableEq α]
end
end RM
namespace RM
open L3
section
variable (n:Nat) (c:Nat->Int) (st:Nat->List (List Int))
variable {n c st}
end
end RM
namespace L3
open PySem PySem.Spec L2 RM
theorem Same.putD {H H2:Hp} {l:Addr} {o:HO} (e:Same H H2) (h:H l=none):Same H (upd H2 l o):=fun b u q=>by rw[upd_ne (ne_of_none q h)]; exact e b u q
end L3
namespace RM
open L3
section
variable {n:Nat} {c:Nat->Int} {st:Nat->List (List Int)}
end
end RM
namespace L3
open PySem PySem.Spec PyProof.Rows L2 Tim
section
variable {X:Cx} {pins:List (Addr×Obj)} {σ:L2.St} {H:Hp} {s:Shared} {a:Addr} {o:Obj} {kvs:List (List Key×V)}
theorem freezeD (I:Inv X pins σ H s) (ha:H a=some (.dT kvs)) (ho:s.heap.get? a=some o):Inv X pins σ (upd H a (.frz o (.dT kvs))) s:=by
 have ne:∀ {b:Addr} {u:HO},H b=some u->u≠.dT kvs->b≠a:=fun e d=>ne_of e ha d
 have nn:∀ {b:Addr},H b=none->b≠a:=fun e=>Ne.symm (ne_of_none ha e)
 have ht:∀ b xs,H b=some (.tup xs)->upd H a (.frz o (.dT kvs)) b=some (.tup xs):=fun b xs e=>by rw[upd_ne (ne e (fun z=>by cases z))]; exact e
 have hw:∀ b x,H b=some (.own x)->upd H a (.frz o (.dT kvs)) b=some (.own x):=fun b x e=>by rw[upd_ne (ne e (fun z=>by cases z))]; exact e
 refine⟨I.ok,I.os,I.bare,⟨I.base.keep,I.base.slot,fun b u e n hb=>?_,I.base.there,fun b xs e=>ht b xs (I.base.tups b xs e),fun b u v e=>?_,fun b ps e=>?_⟩,I.loc,I.cell,?_,fun x c e=>?_,fun p hp=>?_,fun b u e=>?_,I.len⟩
 ·have:=I.base.free b u e n hb
  rw[upd_ne (nn this)]; exact this
 ·have:=I.base.frzs b u v e
  rw[upd_ne (ne this (fun z=>by cases z))]; exact this
 ·obtain⟨more,q⟩:=I.base.tbls b ps e
  exact⟨more,by rw[upd_ne (ne q (fun z=>by cases z))]; exact q⟩
 ·rw[upd_ne (nn I.free)]; exact I.free
 ·rw[upd_ne (nn (I.freeC x c e))]; exact I.freeC x c e
 ·obtain⟨h1,h2,h3,h4,h5⟩:=I.pin p hp
  exact⟨h1,by rw[upd_ne (nn h2)]; exact h2,h3,h4,h5⟩
 ·by_cases hb:b=a
  ·subst hb
   rw[upd_same] at e
   cases e
   exact⟨ho,(I.hok b _ ha).stay (fun _ _ _ z=>z) (fun c z=>hw c b z) ht⟩
  ·rw[upd_ne hb] at e
   exact (I.hok b u e).stay (fun _ _ _ z=>z) (fun c z=>hw c b z) ht
end
def Itd (a:Addr) (o:Obj) (kvs:List (List Key×V)):It:=
 ⟨fun i H=>H a=some (.frz o (.dT kvs))/\i<kvs.length,fun i H x H'=>H'=H/\∃ k v p,kvs[i]?=some (k,v)/\x=.ref p/\H p=some (.tup (k.map kV)),fun i H=>H a=some (.frz o (.dT kvs))/\kvs.length<=i⟩
theorem kt_get {H:Hp}:∀ {kvs:List (List Key×V)} {xs:List (List Key×Addr×Value)} {i:Nat},KT H kvs xs->i<kvs.length->∃ k v b u,kvs[i]?=some (k,v)/\xs[i]?=some (k,b,u)/\H b=some (.tup (k.map kV))
 | _,_,_,.nil,h=>absurd h (Nat.not_lt_zero _)
 | p::_,q::_,0,.cons r _,_=>⟨p.1,p.2,q.2.1,q.2.2,rfl,by rw[r.1]; rfl,r.2.1⟩
 | _::_,_::_,i+1,.cons _ t,h=>kt_get (i:=i) t (Nat.lt_of_succ_lt_succ h)
theorem turn_dictT {P:Program} {w:World} {K:PySem.W.Frag} {tg:Expr} (a it:Addr) {o:Obj} {kvs:List (List Key×V)} {es:Array DictEntry} {ep:Nat} (hc:o.cls=.type "dict") (hd:o.data=.dict es ep) (hne:a≠it) :
  Turn P w K tg (Itd a o kvs) [it] it (fun i h=>h.IsKeyIter it a i es.size ep) where
 mem:=by simp
 obj:=fun i h st b hb=>by
  have e:b=it:=by simpa using hb
  subst e
  obtain⟨o,e,c,d⟩:=st
  exact⟨o,e,fun v z=>by rw[d] at z; cases z⟩
 keep:=fun i h h' st k=>st.at fun o e=>k it (by simp) o e
 item:=by
  intro X hP hw hK hcm i pins s σ H E I hf st hg
  subst hP hw hK
  obtain⟨hg,hi⟩:=hg
  obtain⟨f0,f1,f2,f3,f4,f5⟩:=hf it (by simp)
  obtain⟨ho,ok⟩:=(show s.heap.get? a=some o/\ObjOk X.prog X.w H s.heap a (.dT kvs) from I.hok a _ hg)
  obtain⟨z,lo,xs,rel,o',es',ep',h1,h2,h3,h4,h5⟩:=ok
  rw[ho] at h1
  cases h1
  rw[hd] at h3
  cases h3
  obtain⟨k,v,b,u,e1,e2,e3⟩:=kt_get rel hi
  have ee:es[i]?=some (entryOfKey (tupleKind (mixKind X.prog X.w)) (k,b,u)):=by rw[entry_at h4,e2]; rfl
  refine raw_next st ⟨o,ho,hc,hd⟩ ee fun h' hit' sb=>?_
  have I1:Inv X pins σ H { s with heap:=h' }:=I.turned (t':=s.toks) (fun b o hb e=>(sb.2 b hb).trans e) f0 f1 f3 f4 f5
  obtain⟨oi,g1,g2,g3⟩:=id hit'
  exact⟨_,rfl,go_of (s:={ s with heap:=h' }) g1 g2 g3 (by decide) ⟨.ref b,H,I1,rfl,⟨rfl,k,v,b,e1,rfl,e3⟩,hit',fun b hb=>(hf b hb).1⟩⟩
 done:=by
  intro X hP hw hK hcm i pins s σ H E I hf st hg
  subst hP hw hK
  obtain⟨hg,hi⟩:=hg
  obtain⟨f0,f1,f2,f3,f4,f5⟩:=hf it (by simp)
  obtain⟨ho,ok⟩:=(show s.heap.get? a=some o/\ObjOk X.prog X.w H s.heap a (.dT kvs) from I.hok a _ hg)
  obtain⟨z,lo,xs,rel,o',es',ep',h1,h2,h3,h4,h5⟩:=ok
  rw[ho] at h1
  cases h1
  rw[hd] at h3
  cases h3
  have hes:es.size=kvs.length:=by rw[size_of_entries h4]; exact (Paired.length rel).symm
  exact raw_end (I.ok.hd hcm) st ⟨o,ho,hc,hd⟩ (by omega) fun h' eb=>⟨rfl,I.turned (t':=s.toks) (fun b o hb e=>eb b o hb e) f0 f1 f3 f4 f5⟩
 self:=fun _ _ _ _ _ st h=>wpAny_pyIter_keyiter st h
def iDictT (td:TE):TI:=fun σ H R=>td σ H fun x H1=>∃ a kvs,x=.ref a/\H1 a=some (.dT kvs)/\∀ o,R (Itd a o kvs) (upd H1 a (.frz o (.dT kvs)))
theorem pi_dictT {X:Cx} {tg d:Expr} {td:TE} (hd:PE X d td):PI X tg d (iDictT td):=by
 intro pins s σ H R I h
 refine thn (hd pins s σ H _ I h) fun v s1 ⟨x,H1,I1,r1,q1⟩=>?_
 obtain⟨a,kvs,e,ha,q⟩:=q1
 subst e
 cases r1
 obtain⟨z,lo,xs,rel,o,es,ep,h1,h2,h3,h4,h5⟩:=dt_of I1.hok ha
 have I2:=freezeD I1 ha h1
 refine raw_iter lo ⟨o,h1,h2.1,h3⟩ ?_
 have al:a<s1.heap.objs.size:=Heap.lt_size h1
 refine⟨s1.heap.objs.size,[s1.heap.objs.size],_,_,_,rfl,I2.kept (t':=s1.toks) fun b o e=>Heap.get?_push_of_some _ e,turn_dictT a _ (es:=es) (ep:=ep) h2.1 h3 (Nat.ne_of_lt al),⟨_,Heap.get?_push_size _ rfl,rfl,rfl⟩,fun b hb=>?_,q o⟩
 have e:b=s1.heap.objs.size:=by simpa using hb
 subst e
 exact I2.fpOk (Nat.le_refl _) (I2.hok.fresh (Nat.le_refl _))
end L3
namespace L3
open PySem PySem.Spec PyProof.Rows L2 Tim
section
variable {X:Cx}
end
end L3
namespace L3
open PySem PySem.Spec PyProof.Rows L2 Tim
def valI:Value->Int
 | .int n _=>n
 | _=>0
def nsOf (es:Array (Int×Value)):List Int:=es.toList.map fun e=>valI e.2
def SetN (P:Program) (w:World) (h:Heap) (a:Addr) (es:Array (Int×Value)) (ep:Nat):Prop:=
 ∃ o t k,h.get? a=some o/\o.ExactSet/\o.data=.set es ep t/\NiceT (w.params.followText "set-order") t es k/\ElemsOf (intKind P w) es.toList/\(nsOf es).Nodup
theorem order_perm {es:Array (Int×Value)} {order:Array Nat} (hp:order.toList.Perm (List.range es.size)):(order.filterMap (es[·]?)).size=es.size/\(order.filterMap (es[·]?)).toList.Perm es.toList/\(order.filterMap (es[·]?)).toList.map (·.1)=order.toList.map fun i=>(es.map (·.1)).getD i 0:=by
 have inr:∀ i∈order.toList,i<es.size:=fun i hi=>List.mem_range.mp (hp.subset hi)
 have e1:∀ l:List Nat,(∀ i∈l,i<es.size)->l.filterMap (es[·]?)=l.map fun i=>es.getD i (0,.none):=by
  intro l
  induction l with
  | nil=>intro _; rfl
  | cons i r ih=>
   intro hl
   have hi:=hl i (by simp)
   rw[List.filterMap_cons,Array.getElem?_eq_getElem hi,List.map_cons,ih fun j hj=>hl j (by simp[hj])]
   simp[Array.getD,hi]
 have e2:(order.filterMap (es[·]?)).toList=order.toList.map fun i=>es.getD i (0,.none):=by
  rw[Array.toList_filterMap]
  exact e1 _ inr
 have osz:order.toList.length=es.size:=by have:=hp.length_eq; rw[List.length_range] at this; exact this
 have sz:(order.filterMap (es[·]?)).size=es.size:=by rw[<-Array.length_toList,e2,List.length_map,osz]
 refine⟨sz,?_,?_⟩
 ·rw[e2]
  have h3:((List.range es.size).map fun i=>es.getD i (0,.none))=es.toList:=by
   refine List.ext_getElem? fun i=>?_
   have et:es.toList[i]?=es[i]?:=Array.getElem?_toList
   rw[List.getElem?_map,et]
   by_cases hi:i<es.size
   ·rw[List.getElem?_range hi,Array.getElem?_eq_getElem hi]
    simp[Array.getD,hi]
   ·rw[List.getElem?_eq_none (by rw[List.length_range]; omega),Array.getElem?_eq_none (by omega)]
    rfl
  have:=hp.map fun i=>es.getD i (0,.none)
  rw[h3] at this
  exact this
 ·rw[e2,List.map_map]
  refine List.map_congr_left fun i hi=>?_
  have hil:=inr i hi
  show (es.getD i (0,.none)).1=(es.map (·.1)).getD i 0
  rw[getD_hs (Array.getElem?_eq_getElem hil)]
  simp[Array.getD,hil]
section
variable {P:Program} {w:World} {A:Around} {E:Value->Shared->Prop} {s:Shared} {a:Addr} {es:Array (Int×Value)} {ep:Nat} {n:Int} {tk:Tok}
theorem add_int {Q:Bool->Shared->Prop} (S:SetN P w s.heap a es ep) (hz:es.size<1000) (q1:n∈nsOf es->Q false s)
  (q2:n∉nsOf es->∀ (h':Heap) (es':Array (Int×Value)) (ep':Nat),Heap.SameBut a s.heap h'->SetN P w h' a es' ep'->(nsOf es').Perm (n::nsOf es)->Q true { s with heap:=h' }) :
  wpAny (model P w) A (setAddHashed a (.int n tk) ((intKind P w).hash n)) Q E s:=by
 obtain⟨o,t,k,ho,hex,hd,N,hel,nd⟩:=S
 have hkey:(intKind P w).is n (.int n tk)=true:=by show Value.isInt n (.int n tk)=true; unfold Value.isInt; exact beq_self_eq_true n
 have hsc:(Value.int n tk).scannable=true:=rfl
 have hb:es.size<scanBound:=Nat.lt_trans hz (by decide)
 have is_iff:∀ e∈es.toList,((intKind P w).is n e.2=true↔valI e.2=n):=fun e he=>by
  obtain⟨⟨m,hm,_⟩,_⟩:=hel e he
  obtain⟨tm,em⟩:=Value.isInt_shape (show Value.isInt m e.2=true from hm)
  have vm:valI e.2=m:=by rw[em]; rfl
  rw[vm]
  exact⟨fun z=>Value.isInt_inj _ _ _ (show Value.isInt m e.2=true from hm) z,fun z=>by rw[<-z]; exact hm⟩
 unfold setAddHashed setAddHashedIn
 refine wpAny_holding (wpAny_bind (wpAny_setState_of ho hd N.fits ?_))
 dsimp only
 rw[byScan_of hsc hb hel]
 simp only[↓reduceIte]
 unfold setAddByScan
 refine wpAny_bind ?_
 refine wpAny_bind (wpAny_rule ?_)
 refine wpAny_bind (wpAny_setScan_of hkey ho hd N.fits hel ?_)
 cases hr:List.findIdx? (fun e=>(intKind P w).is n e.2) es.toList with
 | some j=>
  dsimp only
  obtain⟨hj,hpj,_⟩:=List.findIdx?_eq_some_iff_getElem.mp hr
  refine wpAny_pure (wpAny_pure (q1 ?_))
  exact List.mem_map.mpr ⟨_,List.getElem_mem hj,(is_iff _ (List.getElem_mem hj)).mp hpj⟩
 | none=>
  dsimp only
  have hn:n∉nsOf es:=fun z=>by
   obtain⟨e,he,e1⟩:=List.mem_map.mp z
   have:=List.findIdx?_eq_none_iff.mp hr e he
   rw[(is_iff e he).mpr e1] at this
   cases this
  have hgw:∀ (b:Bool) {s₁:Shared} {Q':Unit->Shared->Prop},Q' () s₁->wpAny (model P w) A (match b with | true=>rule "set.scan.the-table-gave-way" | false=>pure ()) Q' E s₁:=
   fun b s₁ Q' hq=>by cases b <;> first | exact wpAny_pure hq | exact wpAny_rule hq
  generalize hh:(intKind P w).hash n=h0 at *
  obtain⟨mE,hlt,hE,hB⟩:=least_empty N.ok h0
  obtain⟨m1,c1,c2,c3⟩:=STb.go_meets N.ok (fun _=>h0+1) h0 mE (10*SetTable.turns t.mask) (p:=t.probeStart h0) hlt (STb.Well.start (t:=t) N.ok.mask h0) hE
  obtain⟨c4,c5⟩ : t.slot (STb.adv t m1 (t.probeStart h0)).j=.empty/\SetTable.probe.go t (fun _=>h0+1) h0 (10*SetTable.turns t.mask) (t.probeStart h0)=some (.empty (STb.adv t m1 (t.probeStart h0)).j none):=by
   rcases c3 with c3 | ⟨i,_,z,_⟩
   ·exact c3
   ·omega
  have em:m1=mE:=by
   rcases Nat.lt_or_ge m1 mE with z | z
   ·exact absurd c4 (hB _ z)
   ·omega
  subst em
  have hj:=STb.Well.jle N.ok.mask (STb.Well.adv N.ok.mask m1 (STb.Well.start (t:=t) N.ok.mask h0))
  generalize hjj:(STb.adv t m1 (t.probeStart h0)).j=j at *
  have fs:t.freeSlot h0=some (j,false):=by
   unfold SetTable.freeSlot SetTable.probe
   rw[c5]; rfl
  have k3:=N.k3
  have m8:8<=2 ^ k:=by
   have:2 ^ 3<=2 ^ k:=Nat.pow_le_pow_right (by decide) k3
   exact this
  have hm:=N.ok.mask
  have nf:=N.nf
  have psz:=N.sz
  have hrm:t.place.size+1<=t.mask:=by omega
  obtain⟨ok',ep2,epl,emk,eld,eplain⟩:=STb.put_ok N.ok hj c4 hrm
  have fd':=STb.found_put (hs:=es.toList.map (·.1)) (h:=h0) N.ok hj c4 hrm N.fd (by rw[List.length_map,Array.length_toList]; exact psz.symm) hjj hB
  obtain⟨b1,_,_⟩:=STb.below_at (j:=j) N.ok.rise
  have pb:(t.put j).2<=es.size:=by rw[ep2,← psz]; exact b1
  have sz':(SetTable.insertAt es (t.put j).2 (h0,Value.int n tk)).size=es.size+1:=STb.insertAt_size _ _ pb
  have psz':(t.put j).1.place.size=es.size+1:=by rw[epl,STb.insertAt_size _ _ b1,psz]
  have fill':(t.put j).1.fill=es.size+1:=by
   unfold SetTable.fill
   rw[psz',ok'.nod]
   rfl
  have fits1:(t.put j).1.fits (SetTable.insertAt es (t.put j).2 (h0,Value.int n tk)).size=true:=by
   unfold SetTable.fits
   rw[fill',psz',sz']
   simp
   have:=ok'.room
   omega
  have eL:layNew t es h0 (.int n tk)=(SetTable.insertAt es (t.put j).2 (h0,Value.int n tk),(t.put j).1,false,false):=by
   unfold layNew
   rw[fs]
   dsimp only
   unfold SetTable.orStandIn
   rw[if_pos fits1,fits1]; rfl
  rw[eL]
  dsimp only
  have p1:(SetTable.insertAt es (t.put j).2 (h0,Value.int n tk)).toList.Perm ((h0,Value.int n tk)::es.toList):=STb.insertAt_perm _ _ _
  have hl1:(SetTable.insertAt es (t.put j).2 (h0,Value.int n tk)).toList.map (·.1)=(es.toList.map (·.1)).take (t.put j).2++h0::(es.toList.map (·.1)).drop (t.put j).2:=by
   rw[STb.insertAt_list,List.map_append,List.map_cons,List.map_take,List.map_drop]
  rw[<-hl1] at fd'
  have hel1:ElemsOf (intKind P w) (SetTable.insertAt es (t.put j).2 (h0,Value.int n tk)).toList:=by
   have:=(hel.push hkey hsc).perm (p1.trans (List.perm_append_comm (l₁:=[(h0,Value.int n tk)]) (l₂:=es.toList) |>.trans (by rw[hh])))
   exact this
  have pn:(nsOf (SetTable.insertAt es (t.put j).2 (h0,Value.int n tk))).Perm (n::nsOf es):=p1.map (fun e:Int×Value=>valI e.2)
  have nd1:(nsOf (SetTable.insertAt es (t.put j).2 (h0,Value.int n tk))).Nodup:=pn.nodup_iff.mpr (List.nodup_cons.mpr ⟨hn,nd⟩)
  have hs1:=Heap.SameBut.update s.heap a (Obj.putSet (SetTable.insertAt es (t.put j).2 (h0,Value.int n tk)) (t.put j).1)
  have hg1:(s.heap.update a (Obj.putSet (SetTable.insertAt es (t.put j).2 (h0,Value.int n tk)) (t.put j).1)).get? a=some { o with data:=.set (SetTable.insertAt es (t.put j).2 (h0,Value.int n tk)) (ep+1) (t.put j).1 }:=by
   have:=Heap.get?_update_self (Obj.putSet (SetTable.insertAt es (t.put j).2 (h0,Value.int n tk)) (t.put j).1) ho (by rw[putSet_of _ _ hd]; rfl)
   rw[putSet_of _ _ hd] at this
   exact this
  refine wpAny_bind (hgw false ?_)
  rw[eplain,N.pl]
  simp only[if_true]
  rw[hashByValue_scannable 8 hsc]
  refine wpAny_bind (wpAny_pure ?_)
  have pk:plainKind (Value.int n tk)=true:=rfl
  rw[pk]
  simp only[if_true]
  refine wpAny_bind (wpAny_storeSet_of ho hd ?_ (by rw[sz']; exact Nat.le_of_lt (Nat.lt_of_le_of_lt (show es.size+1<=1001 by omega) (by decide))))
  generalize hes1:SetTable.insertAt es (t.put j).2 (h0,Value.int n tk)=es1 at *
  generalize ht1:(t.put j).1=t1 at *
  generalize hh1:s.heap.update a (Obj.putSet es1 t1)=h1 at *
  simp only[Bool.not_false,Bool.true_and]
  refine wpAny_ite ?_
  by_cases tf:t1.tooFull=true
  ·rw[if_pos tf]
   have hw:SetTable.grown es1.size=(es.size+1)*4:=by
    unfold SetTable.grown
    rw[sz',if_neg (by omega)]
   obtain⟨k',k3',ek',lk'⟩:=STb.above_ok (n:=(es.size+1)*4) (by
    have:(es.size+1)*4<=4004:=by omega
    exact Nat.lt_of_le_of_lt this (by decide))
   have sm:=STb.above_small ((es.size+1)*4)
   rw[ek'] at sm
   have p8:8<=2 ^ k':=by
    have:2 ^ 3<=2 ^ k':=Nat.pow_le_pow_right (by decide) k3'
    exact this
   obtain⟨t2,order,el,ok2,em2,eld2,epl2,psz2,op2,fd2⟩:=STb.laid_ok (mask:=2 ^ k'-1) (k:=k') (by omega) t1.finger (t1.movedTo (2 ^ k'-1)) t1.led t1.plain (es1.map (·.1)) (by rw[Array.size_map,sz']; omega)
   have er:t1.relaid (es1.map (·.1)) ((es.size+1)*4)=some (t2,order):=by
    unfold SetTable.relaid
    rw[ek']
    exact el
   rw[Array.size_map] at op2
   obtain⟨o1,o2,o4⟩:=order_perm op2
   have N2:NiceT (w.params.followText "set-order") t2 (order.filterMap (es1[·]?)) k':=by
    have z2:(order.filterMap (es1[·]?)).size=es.size+1:=by rw[o1,sz']
    refine⟨ok2,k3',?_,?_,?_,?_,?_,?_⟩
    ·rw[psz2,Array.size_map,o1]
    ·rw[o4]; exact fd2
    ·rw[z2,em2]; omega
    ·rw[z2,em2]; omega
    ·rw[epl2,eplain]; exact N.pl
    ·rw[eld2,eld]; exact N.ld
   have rl:relayAll t1 es1 (SetTable.grown es1.size)=(order.filterMap (es1[·]?),t2,false):=by
    unfold relayAll
    rw[hw,er]
    dsimp only
    rw[if_pos (by
     rw[Bool.and_eq_true]
     exact⟨List.isPerm_iff.mpr op2,N2.fits⟩)]
   rw[rl]
   dsimp only
   refine wpAny_bind (hgw false ?_)
   have z2:(order.filterMap (es1[·]?)).size=es.size+1:=by rw[o1,sz']
   refine wpAny_bind (wpAny_storeSet_of (s:={ s with heap:=h1 }) hg1 rfl ?_ (by rw[z2]; exact Nat.le_of_lt (Nat.lt_of_le_of_lt (show es.size+1<=1001 by omega) (by decide))))
   have hs2:=Heap.SameBut.update h1 a (Obj.putSet (order.filterMap (es1[·]?)) t2)
   have hg2:(h1.update a (Obj.putSet (order.filterMap (es1[·]?)) t2)).get? a=some { o with data:=.set (order.filterMap (es1[·]?)) (ep+1+1) t2 }:=by
    have:=Heap.get?_update_self (Obj.putSet (order.filterMap (es1[·]?)) t2) hg1 (by rw[putSet_of (ep:=ep+1) _ _ rfl]; rfl)
    rw[putSet_of (ep:=ep+1) _ _ rfl] at this
    exact this
   have pn2:(nsOf (order.filterMap (es1[·]?))).Perm (nsOf es1):=o2.map (fun e:Int×Value=>valI e.2)
   exact wpAny_pure (wpAny_pure (q2 hn _ _ _ (hs1.trans hs2) ⟨_,t2,k',hg2,hex,rfl,N2,hel1.perm o2,pn2.nodup_iff.mpr nd1⟩ (pn2.trans pn)))
  ·rw[if_neg tf]
   have tf':¬ (es.size+1)*5≥t1.mask*3:=fun z=>tf (by
    unfold SetTable.tooFull
    rw[fill']
    simpa using z)
   exact wpAny_pure (wpAny_pure (q2 hn _ _ _ hs1 ⟨_,t1,k,hg1,hex,rfl,⟨ok',k3,by rw[psz',sz'],fd',by rw[sz']; omega,by rw[sz',emk]; have:=N.mx; omega,by rw[eplain]; exact N.pl,by rw[eld]; exact N.ld⟩,hel1,nd1⟩ pn))
end
end L3
namespace L3
open PySem PySem.Spec PyProof.Rows L2 Tim
def firstN (f:Nat->Int) (i:Nat):List Int:=RM.seenL ((List.range i).map f)
theorem firstN_succ (f:Nat->Int) (i:Nat):firstN f (i+1)=RM.addU (firstN f i) (f i):=by
 unfold firstN
 rw[List.range_succ,List.map_append]
 exact RM.seen_snoc _ _
theorem firstN_len (f:Nat->Int) (i:Nat):(firstN f i).length<=i:=by
 have:=RM.seen_len ((List.range i).map f)
 rw[List.length_map,List.length_range] at this
 exact this
theorem nsOf_len (es:Array (Int×Value)):(nsOf es).length=es.size:=by unfold nsOf; rw[List.length_map,Array.length_toList]
section
variable {P:Program} {w:World} {A:Around} {E:Value->Shared->Prop} {s:Shared}
theorem set0_okN {h:Heap} {a:Addr} (e:h.get? a=some (set0 w)):SetN P w h a #[] 0:=by
 refine⟨set0 w,_,3,e,⟨rfl,rfl,rfl⟩,rfl,⟨⟨fun i j x y _ h=>by simp[SetTable.fresh] at h,fun i x h=>by simp[SetTable.fresh] at h,rfl,rfl,(show 0<=7 from by decide)⟩,Nat.le_refl _,rfl,fun i j x h=>by simp at h,(show 0*5<7*3 from by decide),(show 7<=7+8*0 from by decide),rfl,rfl⟩,fun e he=>(by cases he),List.nodup_nil⟩
theorem loop_ints {I S:Addr} {fp wr:List Addr} {n:Nat} {Pw:Nat->Value->Prop} {St:Nat->Heap->Prop} (W:Walks P w A.in1 I fp wr n Pw St) (hSf:S∉fp) (hn:n<1000) (f:Nat->Int) (hv:∀ i v,i<n->Pw i v->∃ tk,v=.int (f i) tk)
  {R:Result->Shared->Prop}:∀ (m i:Nat) (s:Shared) (es:Array (Int×Value)) (ep:Nat),n-i=m->i<=n->St i s.heap->SetN P w s.heap S es ep->(nsOf es).Perm (firstN f i) ->
   (∀ (h':Heap) (tk:Nat) (es':Array (Int×Value)) (ep':Nat),(∀ b o,b∉S::wr->s.heap.get? b=some o->h'.get? b=some o)->SetN P w h' S es' ep'->(nsOf es').Perm (firstN f n)->R (.ok (.ret .none)) { s with heap:=h',toks:=tk }) ->
   codeAny (model P w) A (.builtin "set.update.loop" ⟨[.ref S,.ref I],[]⟩) R s:=by
 have hSw:S∉wr:=fun z=>hSf (W.sub _ z)
 intro m
 induction m with
 | zero=>
  intro i s es ep hm hi hst hS hp hR
  have ein:i=n:=by omega
  subst ein
  refine codeAny_builtin PyProof.Rows.F.entry_set_update_loop ?_
  rw[Around.under_plainId PyProof.Rows.F.plain_set_update_loop _]
  refine (show wpAny _ A.in1 (pyNext (.ref I) >>= _) _ _ s from wpAny_bind (W.done s _ _ hst fun h' tk kp=>?_))
  refine (show wpAny _ A.in1 (ret Value.none) _ _ _ from wpAny_pure (hR h' tk es ep (fun b o hb e=>kp b o (fun z=>hb (List.mem_cons_of_mem _ z)) e) ?_ hp))
  obtain⟨o,t,k,ho,r⟩:=hS
  exact⟨o,t,k,kp S o hSw ho,r⟩
 | succ m ih=>
  intro i s es ep hm hi hst hS hp hR
  have hlt:i<n:=by omega
  refine codeAny_builtin PyProof.Rows.F.entry_set_update_loop ?_
  rw[Around.under_plainId PyProof.Rows.F.plain_set_update_loop _]
  refine (show wpAny _ A.in1 (pyNext (.ref I) >>= _) _ _ s from wpAny_bind (W.item i s _ _ hlt hst fun v h1 tk hP hst1 kp=>?_))
  obtain⟨ti,rfl⟩:=hv i v hlt hP
  have hS1:SetN P w h1 S es ep:=by
   obtain⟨o,t,k,ho,r⟩:=hS
   exact⟨o,t,k,kp S o hSw ho,r⟩
  have kp1:∀ c o,c∉S::wr->s.heap.get? c=some o->h1.get? c=some o:=fun c o hc e=>kp c o (fun z=>hc (List.mem_cons_of_mem _ z)) e
  refine (show wpAny _ A.in1 (holding [Value.int (f i) ti] (setAdd S (.int (f i) ti)) >>= _) _ _ _ from wpAny_bind (wpAny_holding ?_))
  unfold setAdd
  refine wpAny_holding (wpAny_bind (wpAny_pyHash_int ?_))
  have hlen:es.size<1000:=by
   have h1:=hp.length_eq
   have h2:=firstN_len f i
   rw[nsOf_len] at h1
   omega
  refine add_int (s:={ s with heap:=h1,toks:=tk+1 }) hS1 hlen (fun hin=>?_) (fun hout h2 es2 ep2 hs2 hS2 hp2=>?_)
  ·refine wpAny_pure ⟨plainId_quiet PyProof.Rows.F.plain_set_update_loop _,ih (i+1) _ es ep (by omega) hlt hst1 hS1 ?_ fun h' tk' es' ep' k1 k2 k3=>hR h' tk' es' ep' (fun c o hc e=>k1 c o hc (kp1 c o hc e)) k2 k3⟩
   rw[firstN_succ]
   unfold RM.addU
   rw[if_pos (hp.subset hin)]
   exact hp
  ·have kp2:∀ c o,c∉S::wr->h1.get? c=some o->h2.get? c=some o:=fun c o hc e=>(hs2.2 c (fun z=>hc (by rw[z]; exact List.mem_cons_self))).trans e
   have hst2:St (i+1) h2:=W.frame _ _ _ hst1 fun c hc o e=>(hs2.2 c (fun z=>hSf (by rw[<-z]; exact hc))).trans e
   refine wpAny_pure ⟨plainId_quiet PyProof.Rows.F.plain_set_update_loop _,ih (i+1) _ es2 ep2 (by omega) hlt hst2 hS2 ?_ fun h' tk' es' ep' k1 k2 k3=>hR h' tk' es' ep' (fun c o hc e=>k1 c o hc (kp2 c o hc (kp1 c o hc e))) k2 k3⟩
   rw[firstN_succ]
   unfold RM.addU
   rw[if_neg (fun z=>hout (hp.symm.subset z))]
   exact hp2.trans ((List.Perm.cons _ hp).trans (List.perm_append_comm (l₁:=[f i]) (l₂:=firstN f i)))
theorem call_set_ints {l:Addr} {items:Array Value} {Q:Value->Shared->Prop} (hh:A.handled=none) (hl:s.heap.IsList l items) (hn:items.size<1000) (f:Nat->Int) (hv:∀ i v,items[i]?=some v->∃ tk,v=Value.int (f i) tk)
  (q:∀ (h':Heap) (tk:Nat) (es:Array (Int×Value)) (ep:Nat),SetN P w h' s.heap.objs.size es ep->(nsOf es).Perm (firstN f items.size)->(∀ b o,s.heap.get? b=some o->h'.get? b=some o)->Q (.ref s.heap.objs.size) { s with heap:=h',toks:=tk }) :
  wpAny (model P w) A (call (.type "set") [.ref l]) Q E s:=by
 have ft:=PySem.F.called_set
 obtain⟨c,tl,hmro⟩:=ft.mro
 have hmade:=ft.made; have hsub:=ft.sub; have h1:=ft.notType; have h2:=ft.canCreate; have hct:=PySem.F.typeCall_set_1 (.ref l)
 refine wpAny_call (codeAny_of_tree (show wpAny _ _ (callAny (.type "set") _) _ _ _ from wpAny_pure ⟨Code.quiet_builtin _ (by decide +kernel),codeAny_builtin PySem.F.entry_type_call ?_⟩))
 rw[Around.under_plain (weight_type_call_type "set" [.ref l] []) rfl]; repeat (any_goals (first | wp_step | assumption))
 refine codeAny_mono (new_set0 (x:=.ref l) (E:=E) (Q:=fun ob s₁=>ob=.ref s.heap.objs.size/\s₁={ s with heap:=s.heap.push (set0 w) }) ⟨rfl,rfl⟩) fun r s₁ hr=>?_
 match r,hr with
 | .error e,hr=>exact hr
 | .ok (.ret ob),hr=>
  obtain⟨rfl,rfl⟩:=hr
  have hS:(s.heap.push (set0 w)).get? s.heap.objs.size=some (set0 w):=Heap.get?_push_size _ rfl
  have hT:Shared.TypeIs { s with heap:=s.heap.push (set0 w) } (.ref s.heap.objs.size) "set" := ⟨_,hS,rfl⟩
  have hli:=ft.init.lookup; have hbi:=ft.init.bind (.ref s.heap.objs.size)
  repeat (any_goals (first | wp_step | assumption))
  refine codeAny_mono (codeAny_call_builtin (R:=wants (fun r s₂=>r=.none/\∃ h' tk es ep,s₂={ s with heap:=h',toks:=tk }/\SetN P w h' s.heap.objs.size es ep/\(nsOf es).Perm (firstN f items.size)/\∀ b o,s.heap.get? b=some o->h'.get? b=some o) E) ft.init.plain PySem.F.entry_set_init (check_set_init_1 hT ?_)) fun r₂ s₂ hr₂=>?_
  ·obtain⟨⟨ocls,odict,odata,oslots⟩,hol,hcl,nl,hdl⟩:=id hl
   dsimp only at hcl hdl; subst hcl hdl
   have lat:(s.heap.push (set0 w)).get? l=some { cls:=.type "list",dict:=odict,data:=.seq items nl,slots:=oslots }:=Heap.get?_push_of_some _ hol
   have lst1:(s.heap.push (set0 w)).IsList l items:=⟨_,lat,rfl,nl,rfl⟩
   have a1:=PySem.F.sub_list_set; have a2:=PySem.F.sub_list_frozenset; have a3:(Value.type "list" == Value.type "dict")=false:=by decide
   have hS':(s.heap.push (set0 w)).get? s.heap.objs.size=some { cls:=.type "set",dict:=none,data:=.set #[] 0 (.fresh 0 0 (!w.params.followText "set-order")) }:=hS
   unfold Builtin.«set.__init__» noKeywords Builtin.Frozenset.updateFrom; generalize hPI:pyIter=PI; wp_walk; subst hPI
   refine wpAny_pyIter_list lst1 (wpAny_bind (wpAny_runValue ?_))
   have llt:l<s.heap.objs.size:=Heap.lt_size hol
   have i3:A.in1.in1.in1.handled=none:=by simp[hh]
   have nI:l≠(s.heap.push (set0 w)).objs.size:=by rw[Heap.size_push]; exact Nat.ne_of_lt (Nat.lt_succ_of_lt llt)
   have nS:s.heap.objs.size∉[(s.heap.push (set0 w)).objs.size,l]:=by
    rw[Heap.size_push]
    intro z
    rcases List.mem_cons.mp z with z | z
    ·exact absurd z (Nat.ne_of_lt (Nat.lt_succ_self _))
    ·exact absurd (List.mem_singleton.mp z) (Nat.ne_of_gt llt)
   have nW:∀ b:Addr,b<s.heap.objs.size->b∉s.heap.objs.size::[(s.heap.push (set0 w)).objs.size]:=fun b hb z=>by
    rw[Heap.size_push] at z
    rcases List.mem_cons.mp z with z | z
    ·exact absurd z (Nat.ne_of_lt hb)
    ·exact absurd (List.mem_singleton.mp z) (Nat.ne_of_lt (Nat.lt_succ_of_lt hb))
   have up:∀ {b:Addr} {o:Obj} {x:Obj},s.heap.get? b=some o->((s.heap.push (set0 w)).push x).get? b=some o:=fun e=>Heap.get?_push_of_some _ (Heap.get?_push_of_some _ e)
   refine loop_ints (Walks.list i3 _ l nI items) nS hn f (fun i v hi hP=>hv i v hP) (items.size-0) 0 _ #[] 0 rfl (Nat.zero_le _) ⟨⟨_,Heap.get?_push_size _ rfl,rfl,rfl⟩,lst1.push _⟩ (set0_okN (Heap.get?_push_of_some _ hS)) (List.Perm.refl _) (fun h' tk es' ep' k1 k2 k3=>?_)
   refine wpAny_pure (show wpAny _ _ (ret Value.none) _ _ _ from wpAny_pure ⟨rfl,h',tk,es',ep',rfl,k2,k3,fun b o e=>?_⟩)
   exact k1 b o (nW b (Heap.lt_size e)) (up e)
  ·match r₂,hr₂ with
   | .error e,hr₂=>exact hr₂
   | .ok (.ret r),hr₂=>
    obtain⟨rfl,h',tk,es,ep,rfl,k1,k2,k3⟩:=hr₂
    repeat (any_goals (first | wp_step | assumption))
    exact q h' tk es ep k1 k2 k3
   | .ok .next,hr₂=>exact hr₂.elim
   | .ok .brk,hr₂=>exact hr₂.elim
   | .ok .cont,hr₂=>exact hr₂.elim
 | .ok .next,hr=>exact hr.elim
 | .ok .brk,hr=>exact hr.elim
 | .ok .cont,hr=>exact hr.elim
end
end L3
namespace L3
open PySem PySem.Spec PyProof.Rows L2 Tim
def setHN (w:World) (x:Addr) (ms:List Int):HO:=.ext fun h=>∃ es ep t,SetO w h x es ep t/\(∀ e∈es.toList,∃ tk,e.2=.int (valI e.2) tk)/\nsOf es=ms
theorem vals_ints {ns:List Int} {us:List Value} (h:Vals (ns.map V.int) us):∀ (i:Nat) v,us[i]?=some v->∃ tk,v=.int (ns.getD i 0) tk:=fun i v hv=>by
 obtain⟨tk,e⟩:=IntsAre.int_at (intsAre_of h) i v hv
 exact⟨tk,e⟩
theorem vals_of_ints:∀ {vs:List Value},(∀ v∈vs,∃ n tk,v=.int n tk)->Vals ((vs.map valI).map V.int) vs
 | [],_=>.nil
 | v::vs,h=>by
  obtain⟨n,tk,rfl⟩:=h v List.mem_cons_self
  exact .cons ⟨tk,rfl⟩ (vals_of_ints fun u hu=>h u (List.mem_cons_of_mem _ hu))
section
variable {X:Cx}
def rSetN (w:World) (K:PySem.W.Frag):List V->Hp->VK->Prop:=fun xs H Q=>∃ (p:Addr) (ns:List Int),xs=[.ref p]/\SqL K H p (ns.map V.int)/\ns.length<1000 /\
 ∀ (x:Addr) (ms:List Int),H x=none->ms.Nodup->(∀ n,n∈ms↔n∈ns)->ms.length<=ns.length->Q (.ref x) (upd H x (setHN w x ms))
theorem call_setN (hh:X.A.handled=none):CallR X (.type "set") (rSetN X.w X.K):=by
 intro pins s σ H xs us Q I r h
 obtain⟨p,ns,rfl,hq,hn,q⟩:=h
 obtain⟨u,rfl,rx⟩:=vals1 r
 cases rx
 obtain⟨its,r',pl,hz⟩:=I.list hq
 have il:ns.length=its.length:=by have:=r'.length; rw[List.length_map] at this; exact this
 refine call_set_ints (items:=its.toArray) hh pl.isList (by simp; omega) (fun i=>ns.getD i 0) (fun i v hv=>?_) (fun h' tk es ep S hp kp=>?_)
 ·rw[List.getElem?_toArray] at hv
  exact vals_ints r' i v hv
 ·obtain⟨o,t,k,ho,hex,hd,N,hel,nd⟩:=S
  rw[List.size_toArray,← il] at hp
  have e0:(List.range ns.length).map (fun i=>ns.getD i 0)=ns:=by
   refine List.ext_getElem? fun i=>?_
   rw[List.getElem?_map]
   by_cases hi:i<ns.length
   ·rw[List.getElem?_range hi,List.getElem?_eq_getElem hi]
    simp[List.getD_eq_getElem?_getD,List.getElem?_eq_getElem hi]
   ·rw[List.getElem?_eq_none (by rw[List.length_range]; omega),List.getElem?_eq_none (by omega)]
    rfl
  unfold firstN at hp
  rw[e0] at hp
  have hint:∀ e∈es.toList,∃ tk,e.2=.int (valI e.2) tk:=fun e he=>by
   obtain⟨⟨m,hm,_⟩,_⟩:=hel e he
   obtain⟨tm,em⟩:=Value.isInt_shape (show Value.isInt m e.2=true from hm)
   exact⟨tm,by rw[em]; rfl⟩
  refine⟨.ref s.heap.objs.size,_,I.laid (t':=tk) kp (Nat.le_refl _) (show ObjOk X.prog X.w _ h' _ (setHN X.w s.heap.objs.size (nsOf es)) from⟨⟨es,ep,t,⟨o,k,ho,hex,hd,N⟩,hint,rfl⟩,⟨o,ho⟩,fun h1 h2 ⟨es,ep,t,a1,a2⟩ kk=>⟨es,ep,t,a1.at kk,a2⟩⟩),rfl,q _ (nsOf es) (I.hok.fresh (Nat.le_refl _)) nd (fun n=>?_) ?_⟩
  ·rw[hp.mem_iff,RM.mem_seen]
  ·rw[hp.length_eq]; exact RM.seen_len ns
theorem sorted_ints {A:Around} {E:Value->Shared->Prop} {v:Value} {ms:List Int} {Q:VK} {pins:List (Addr×Obj)} {σ:L2.St} {H:Hp} {s:Shared} (I:Inv X pins σ H s)
  (hcol:∀ Q':List Value->Shared->Prop,(∀ (vs:List Value) h1 tk,Keeps s.heap h1->s.heap.objs.size<=h1.objs.size->(∀ v∈vs,∃ n tk,v=.int n tk)->(vs.map valI).Perm ms->Q' vs { s with heap:=h1,toks:=tk })->wpAny (model X.prog X.w) A.in1 (collect v) Q' E s)
  (hz:ms.length<=sizeLine) (q:∀ (l:Addr) (ms':List Int),H l=none->ms'.Perm ms->ms'.Pairwise (·<=·)->Q (.ref l) (upd H l (.lst (ms'.map V.int)))) :
  wpAny (model X.prog X.w) A (call (.builtin "sorted") [v]) (EP X pins σ Q) E s:=by
 refine sorted_G (κ:=intK) (kd:=oneType') (R:=fun vs=>(∀ v∈vs,∃ n tk,v=.int n tk)/\(vs.map valI).Perm ms) (fun Q' hq=>hcol Q' fun vs h1 tk k z e1 e2=>hq _ h1 tk k z ⟨e1,e2⟩) ?_ ?_ ?_ ?_
 ·rintro vs ⟨_,e⟩
  have:=e.length_eq
  rw[List.length_map] at this
  omega
 ·rintro vs ⟨e,_⟩ v hv
  obtain⟨n,tk,rfl⟩:=e v hv
  exact⟨n,rfl⟩
 ·rintro vs h6 tk ⟨e,_⟩ k h2
  refine⟨lt_intG,fun Q' hq=>?_⟩
  match vs,h2,e with
  | v1::v2::vs,_,e=>
   rw[PyProof.Rows.keyKind_ints (intsAre_of (vals_of_ints e))]
   exact wpAny_pure hq
 ·rintro vs out l h2 tk m ⟨e1,e2⟩ hp hs k hl ho
  have eo:∀ v∈out,∃ n tk,v=.int n tk:=fun v hv=>e1 v (hp.mem_iff.mp hv)
  have po:(out.map valI).Perm ms:=(hp.map valI).trans e2
  have pw:(out.map valI).Pairwise (·<=·):=by
   refine List.pairwise_map.mpr (hs.imp_of_mem fun {x y} hx hy hxy=>?_)
   obtain⟨n,tn,rfl⟩:=eo x hx
   obtain⟨m,tm,rfl⟩:=eo y hy
   show n<=m
   have h9:decide (m<n)=false:=hxy
   have:=of_decide_eq_false h9
   omega
  refine⟨.ref l,_,I.laid (t':=tk) k hl (show ObjOk X.prog X.w _ h2 l (.lst ((out.map valI).map V.int)) from⟨?_,out,m,vals_of_ints eo,ho⟩),rfl,q l _ (I.hok.fresh hl) po pw⟩
  rw[List.length_map,po.length_eq]; exact hz
def rSortN (w:World):List V->Hp->VK->Prop:=fun xs H Q=>∃ (x:Addr) (ms:List Int),xs=[.ref x]/\H x=some (setHN w x ms)/\ms.length<=1000 /\
 ∀ (l:Addr) (ms':List Int),H l=none->ms'.Perm ms->ms'.Pairwise (·<=·)->Q (.ref l) (upd H l (.lst (ms'.map V.int)))
theorem call_sortedN (hh:X.A.handled=none):CallR X (.builtin "sorted") (rSortN X.w):=by
 intro pins s σ H xs us Q I r h
 obtain⟨x,ms,rfl,hx,hn,q⟩:=h
 obtain⟨u,rfl,rx⟩:=vals1 r
 cases rx
 obtain⟨⟨es,ep,t,S,e2,e3⟩,_,_⟩:=(show ObjOk X.prog X.w H s.heap x (setHN X.w x ms) from I.hok x _ hx)
 have wp:=walk_perm X.w x ep es
 have esz:es.size=ms.length:=by rw[<-e3,nsOf_len]
 refine sorted_ints (ms:=ms) I (fun Q' hq'=>?_) (by exact Nat.le_of_lt (small1000 hn)) q
 refine collect_src (set_src (es:=es) (ep:=ep) (t:=t)) hh S (by rw[esz]; exact Nat.le_of_lt (small1000 hn)) fun h' tk acc k zz it=>?_
 have e:acc.toList=(walkOf X.w x ep es).toList.map (·.2):=by
  refine List.ext_getElem? fun j=>?_
  rw[Array.getElem?_toList,List.getElem?_map,Array.getElem?_toList]
  cases hx:(walkOf X.w x ep es)[j]? with
  | none=>
   have:(walkOf X.w x ep es).size<=j:=Array.getElem?_eq_none_iff.mp hx
   rw[walk_size] at this
   rw[Array.getElem?_eq_none (by rw[it.1]; exact this)]; rfl
  | some y=>
   have hlt:j<acc.size:=by
    have:=(Array.getElem?_eq_some_iff.mp hx).1
    rw[walk_size] at this
    rw[it.1]; exact this
   have ea:acc[j]?=some acc[j]:=Array.getElem?_eq_getElem hlt
   obtain⟨en,f1,f2⟩:=it.2 j _ ea
   rw[hx] at f1
   cases f1
   rw[ea,f2]; rfl
 rw[e]
 refine hq' _ h' tk k zz (fun v hv=>?_) ?_
 ·obtain⟨y,hy,rfl⟩:=List.mem_map.mp hv
  obtain⟨ty,et⟩:=e2 y (wp.mem_iff.mp hy)
  exact⟨_,ty,et⟩
 ·rw[List.map_map,← e3]
  exact wp.map _
def rSortI (K:PySem.W.Frag):List V->Hp->VK->Prop:=fun xs H Q=>∃ (p:Addr) (ns:List Int),xs=[.ref p]/\SqL K H p (ns.map V.int) /\
 ∀ (l:Addr) (ms':List Int),H l=none->ms'.Perm ns->ms'.Pairwise (·<=·)->Q (.ref l) (upd H l (.lst (ms'.map V.int)))
theorem call_sortedI:CallR X (.builtin "sorted") (rSortI X.K):=by
 intro pins s σ H xs us Q I r h
 obtain⟨p,ns,rfl,hq,q⟩:=h
 obtain⟨u,rfl,rx⟩:=vals1 r
 cases rx
 obtain⟨its,r',pl,hz⟩:=I.list hq
 rw[List.length_map] at hz
 have il:ns.length=its.length:=by have:=r'.length; rw[List.length_map] at this; exact this
 have hi:∀ v∈its,∃ n tk,v=.int n tk:=fun v hv=>by
  obtain⟨j,hj⟩:=List.getElem?_of_mem hv
  obtain⟨tk,e⟩:=vals_ints r' j v hj
  exact⟨_,tk,e⟩
 have hm:its.map valI=ns:=by
  refine List.ext_getElem? fun j=>?_
  rw[List.getElem?_map]
  cases e:its[j]? with
  | none=>rw[List.getElem?_eq_none (by have:=List.getElem?_eq_none_iff.mp e; omega)]; rfl
  | some v=>
   obtain⟨tk,e1⟩:=vals_ints r' j v e
   have hl:j<ns.length:=by have:=(List.getElem?_eq_some_iff.mp e).1; omega
   rw[e1]
   show some (ns.getD j 0)=_
   rw[List.getD_eq_getElem?_getD,List.getElem?_eq_getElem hl]; rfl
 refine sorted_ints (ms:=ns) I (fun Q' hq'=>?_) hz q
 refine collect_list pl.isList (hq' its _ s.toks (fun b o e=>?_) ?_ hi (by rw[hm])) (by rw[<-il]; exact hz)
 ·rw[Heap.get?_update_ne _ _ _ _ (Nat.ne_of_lt (Heap.lt_size e))]
  exact Heap.get?_push_of_some _ e
 ·rw[Heap.size_update,size_push']; omega
theorem call_setNC (hc:X.calm=true):CallR X (.type "set") (rSetN X.w X.K):=fun pins s σ H xs us Q I r h=>call_setN (I.ok.hd hc) pins s σ H xs us Q I r h
theorem call_sortNC (hc:X.calm=true):CallR X (.builtin "sorted") (rSortN X.w):=fun pins s σ H xs us Q I r h=>call_sortedN (I.ok.hd hc) pins s σ H xs us Q I r h
end
end L3
namespace L3
open PySem PySem.Spec PyProof.Rows L2 Tim
theorem turns_dictT {a:Addr} {o:Obj} {kvs:List (List Key×V)} {g:TG} {tt:TT} {te:TE} {σ0:L2.St} {H0:Hp} {Q:List V->Hp->Prop} (Pv:Nat->L2.St->List V->Hp->Prop) (h0:Pv 0 σ0 [] H0)
  (hl:∀ i σ ys H,i<=kvs.length->Pv i σ ys H->H a=some (.frz o (.dT kvs))/\ys.length<=i) (hz:kvs.length<=sizeLine)
  (hs:∀ i k v p σ ys H,kvs[i]?=some (k,v)->H p=some (.tup (k.map kV))->Pv i σ ys H->g (.ref p) σ H fun σ2 H2=>tt σ2 H2 fun b H3=>if b=true then te σ2 H3 fun y H4=>Pv (i+1) σ2 (ys++[y]) H4 else Pv (i+1) σ2 ys H3)
  (hd:∀ σ ys H,Pv kvs.length σ ys H->Q ys H):tTurns (Itd a o kvs) g tt te σ0 H0 Q:=by
 refine⟨fun i m σ ys H=>m=kvs.length-i/\i<=kvs.length/\Pv i σ ys H,⟨kvs.length,by simp,Nat.zero_le _,h0⟩,?_⟩
 rintro i m σ ys H ⟨rfl,hi,p⟩
 obtain⟨q,z⟩:=hl i σ ys H hi p
 by_cases hlt:i<kvs.length
 ·refine .inr ⟨⟨q,hlt⟩,by omega,Pv (i+1),fun σ' ys' H' p'=>⟨kvs.length-(i+1),by omega,rfl,hlt,p'⟩,fun x H' y=>?_⟩
  obtain⟨e,k,v,b,y1,y2,y3⟩:=y
  subst e y2
  exact hs i k v b σ ys _ y1 y3 p
 ·have e:i=kvs.length:=by omega
  subst e
  exact .inl ⟨⟨q,Nat.le_refl _⟩,hd σ ys H p⟩
section
variable {X:Cx} {pins:List (Addr×Obj)} {σ:L2.St} {H:Hp} {s:Shared} {a:Addr} {o:Obj} {kvs:List (List Key×V)}
theorem thawD (I:Inv X pins σ H s) (ha:H a=some (.frz o (.dT kvs))) (hn:∀ o' u',X.H₀ a≠some (.frz o' u')):Inv X pins σ (upd H a (.dT kvs)) s:=by
 have ne:∀ {b:Addr} {u:HO},H b=some u->u≠.frz o (.dT kvs)->b≠a:=fun e d=>ne_of e ha d
 have nn:∀ {b:Addr},H b=none->b≠a:=fun e=>Ne.symm (ne_of_none ha e)
 have ht:∀ b xs,H b=some (.tup xs)->upd H a (.dT kvs) b=some (.tup xs):=fun b xs e=>by rw[upd_ne (ne e (fun z=>by cases z))]; exact e
 have hw:∀ b x,H b=some (.own x)->upd H a (.dT kvs) b=some (.own x):=fun b x e=>by rw[upd_ne (ne e (fun z=>by cases z))]; exact e
 refine⟨I.ok,I.os,I.bare,⟨I.base.keep,I.base.slot,fun b u e n hb=>?_,I.base.there,fun b xs e=>ht b xs (I.base.tups b xs e),fun b u v e=>?_,fun b ps e=>?_⟩,I.loc,I.cell,?_,fun x c e=>?_,fun p hp=>?_,fun b u e=>?_,I.len⟩
 ·have:=I.base.free b u e n hb
  rw[upd_ne (nn this)]; exact this
 ·have hb:b≠a:=fun z=>hn u v (by rw[<-z]; exact e)
  have:=I.base.frzs b u v e
  rw[upd_ne hb]; exact this
 ·obtain⟨more,q⟩:=I.base.tbls b ps e
  exact⟨more,by rw[upd_ne (ne q (fun z=>by cases z))]; exact q⟩
 ·rw[upd_ne (nn I.free)]; exact I.free
 ·rw[upd_ne (nn (I.freeC x c e))]; exact I.freeC x c e
 ·obtain⟨h1,h2,h3,h4,h5⟩:=I.pin p hp
  exact⟨h1,by rw[upd_ne (nn h2)]; exact h2,h3,h4,h5⟩
 ·by_cases hb:b=a
  ·subst hb
   rw[upd_same] at e
   cases e
   obtain⟨_,ok⟩:=(show s.heap.get? b=some o/\ObjOk X.prog X.w H s.heap b (.dT kvs) from I.hok b _ ha)
   exact ok.stay (fun _ _ _ z=>z) (fun c z=>hw c b z) ht
  ·rw[upd_ne hb] at e
   exact (I.hok b u e).stay (fun _ _ _ z=>z) (fun c z=>hw c b z) ht
def tThaw (H₀:Hp) (t:TE):TE:=fun σ H Q=>t σ H fun v H1=>∃ a o kvs,H1 a=some (.frz o (.dT kvs))/\(∀ o' u',H₀ a≠some (.frz o' u'))/\Q v (upd H1 a (.dT kvs))
theorem pe_thaw {e:Expr} {t:TE} (h:PE X e t):PE X e (tThaw X.H₀ t):=by
 intro pins s σ H Q I hq
 refine thn (h pins s σ H _ I hq) fun v s1 ⟨x,H1,I1,r1,a,o,kvs,ha,hn,q⟩=>?_
 exact⟨x,_,thawD I1 ha hn,r1,q⟩
end
end L3
namespace K01
open PySem L2 L3
def top (i:Nat):Stmt:=PySem.Challenge.pw_twinrooms_k01_doors.main.body.getD i (.Pass ⟨0,0,0,0⟩)
abbrev sHall:Stmt:=top 9
abbrev sInit:Stmt:=inClass sHall 0
abbrev sSize:Stmt:=inClass sHall 1
abbrev sCheck:Stmt:=inClass sHall 2
abbrev sColour:Stmt:=inClass sHall 3
abbrev sPaint:Stmt:=inClass sHall 4
abbrev sOpen:Stmt:=inClass sHall 5
abbrev sShut:Stmt:=inClass sHall 6
abbrev sDoors:Stmt:=inClass sHall 7
abbrev sNamesM:Stmt:=inClass sHall 8
abbrev sWays:Stmt:=inClass sHall 9
abbrev sCell:Stmt:=top 11
abbrev sWhole:Stmt:=top 12
abbrev sNames:Stmt:=top 13
abbrev sLaw:Stmt:=top 20
abbrev sDue:Stmt:=top 14
abbrev sSameN:Stmt:=top 16
abbrev sDoorsTold:Stmt:=top 17
abbrev sRoomTold:Stmt:=top 18
abbrev sDid:Stmt:=top 15
abbrev sTooMany:Stmt:=top 19
structure DefAt (K:PySem.W.Frag) (mg:Str->Option Value) (x:Str) (st:Stmt) (ps:List Str) (f:Addr) (fd:FuncData):Prop where
 fn:Fun K x x st f fd
 bd:Binds K fd ps []
 mg:mg x=some (.ref f)
structure MetAt (K:PySem.W.Frag) (C:Addr) (x qual:Str) (st:Stmt) (ps:List Str) (f:Addr) (fd:FuncData):Prop where
 fn:Fun K x qual st f fd
 bd:Binds K fd ps []
 mt:Meth K C x f
structure ExcAt (K:PySem.W.Frag) (mg:Str->Option Value) (x:Str) (C:Addr):Prop where
 mg:mg x=some (.ref C)
 xc:XCls K C
 xa:XAttr K C
structure HallC (K:PySem.W.Frag) (mg:Str->Option Value) (C:Addr):Prop where
 mg:mg "Hall" = some (.ref C)
 cls:Cls K C
 nc:NoAttr K C "colours"
 nd:NoAttr K C "door_table"
structure Txt (mg:Str->Option Value):Prop where
 len:mg "len" = none
 range:mg "range" = none
 list:mg "list" = none
 isi:mg "isinstance" = none
 sorted:mg "sorted" = none
 min:mg "min" = none
 max:mg "max" = none
 all:mg "all" = none
 int:mg "int" = none
 bool:mg "bool" = none
 enum:mg "enumerate" = none
 zip:mg "zip" = none
 rooms:∃ t,mg "MOST_ROOMS" = some (.int 60 t)
 doors:∃ t,mg "MOST_DOORS" = some (.int 400 t)
theorem bList:bootBuiltins "list" = some (.type "list"):=by decide +kernel
theorem bIsi:bootBuiltins "isinstance" = some (.builtin "isinstance"):=by decide +kernel
theorem bSorted:bootBuiltins "sorted" = some (.builtin "sorted"):=by decide +kernel
theorem bInt:bootBuiltins "int" = some (.type "int"):=by decide +kernel
theorem bBool:bootBuiltins "bool" = some (.type "bool"):=by decide +kernel
theorem bMax:bootBuiltins "max" = some (.builtin "max"):=by decide +kernel
theorem bMin:bootBuiltins "min" = some (.builtin "min"):=by decide +kernel
theorem dec_int (a b:Int):decide (V.int a=V.int b)=decide (a=b):=by simp
section
variable {P:Program} {w:World} {K:PySem.W.Frag} {mg:Str->Option Value} {base:Heap} {f C CR CD CN CT:Addr} {fd:FuncData}
def spSize (C:Addr):Sp:=fun vs H Q _=>∃ h dx c d cols ts,vs=[.ref h]/\HallAt C H h dx c d cols ts/\Q (.int cols.length) H
theorem scSize:FnScope ["self"] ["self"] (defScope sSize):=⟨rfl,rfl,rfl,by decide +kernel,rfl,by decide +kernel,by decide +kernel⟩
theorem ok_size (T:Txt mg) (HC:HallC K mg C) (D:MetAt K C "size" "Hall.size" sSize ["self"] f fd):FnOk P w K mg base CX0 1 f fd ["self"] (spSize C):=by
 refine D.fn.ok scSize (fun vs H Q E h=>?_) (fun cdv A outer s H vs Q E hr h=>?_)
 ·obtain⟨h,dx,c,d,cols,ts,rfl,_⟩:=h
  rfl
 ·obtain⟨h,dx,c,d,cols,ts,rfl,hh,q⟩:=h
  refine⟨_,pss_one (ps_ret (pe_callB call_len_seq rfl T.len PySem.boot_len (pa_cons (pe_fld (pv 0) rfl) pa_nil))),?_⟩
  refine⟨_,rfl,h,C,dx,_,_,rfl,hh.ob,HC.cls,HC.nc,rfl,c,_,rfl,.inl (SqL.of hh.cl),?_⟩
  rw[List.length_map]; exact q
def spCheck (C CR:Addr):Sp:=fun vs H Q E=>∃ h dx c d cols ts a,vs=[.ref h,.int a]/\HallAt C H h dx c d cols ts/\Tell a/\(0<=a/\a<cols.length->Q .non H)/\(¬ (0<=a/\a<cols.length)->E (.ref CR) none H)
theorem scCheck:FnScope ["self", "a"] ["self", "a"] (defScope sCheck):=⟨rfl,rfl,rfl,by decide +kernel,rfl,by decide +kernel,by decide +kernel⟩
theorem ok_check (T:Txt mg) (HC:HallC K mg C) (XR:ExcAt K mg "NoRoom" CR) (D:MetAt K C "check_room" "Hall.check_room" sCheck ["self", "a"] f fd):FnOk P w K mg base (CXE P w) 1 f fd ["self", "a"] (spCheck C CR):=by
 refine L3.Fun.okE D.fn scCheck (fun vs H Q E h=>?_) (fun cdv A outer s H vs Q E hr h=>?_)
 ·obtain⟨h,dx,c,d,cols,ts,a,rfl,_⟩:=h
  rfl
 ·obtain⟨h,dx,c,d,cols,ts,a,rfl,hh,ht,q,qx⟩:=h
  refine⟨_,pss_one (ps_if (PW.pt (pw_or (pt_cmpR op_lt (pv 1) pe_int (nomark _)) (pw_or1 (pt_cmpR op_ge (pv 1) (pe_callB call_len_seq rfl T.len PySem.boot_len (pa_cons (pe_fld (pv 0) rfl) pa_nil)) (nomark _)))))
   (pss_one (ps_raise (E₀:=E) rfl rfl XR.mg XR.xc (pa_cons (pe_join (pj_text (pj_int (pv 1) pj_nil))) pa_nil) (fun pins σ H s h1 y vs I hm q=>xe_new I hm q))) pss_nil),?_⟩
  have bad:¬ (0<=a/\a<cols.length)->(tCons (fun σ H Q=>(fun σ H=>(tVar 1) σ H fun v H1=>H1=H/\(∃ i:Int,v=.int i/\i.natAbs.log2<1920)/\True) σ H/\∀ y,Q (.str y) H) tNil) [some (.ref h),some (.int a)] H (fun vs H1=>vs.length<=sizeLine/\E (.ref CR) none H1):=fun hn=>
   ⟨⟨_,rfl,rfl,⟨a,rfl,ht⟩,True.intro⟩,fun y=>⟨show 1<=sizeLine by decide,qx hn⟩⟩
  refine⟨_,rfl,_,_,rfl,rfl,_,rfl,?_⟩
  refine ite2 (fun hc=>?_) (fun hc=>?_)
  ·have:a<0:=of_decide_eq_true hc
   exact bad (by omega)
  ·have h0:¬ a<0:=fun z=>hc (decide_eq_true z)
   refine⟨_,rfl,_,rfl,h,C,dx,_,_,rfl,hh.ob,HC.cls,HC.nc,rfl,c,_,rfl,.inl (SqL.of hh.cl),_,_,rfl,rfl,_,rfl,?_⟩
   rw[List.length_map]
   refine ite2 (fun hc=>?_) (fun hc=>?_)
   ·have:(cols.length:Int)<=a:=of_decide_eq_true hc
    exact bad (by omega)
   ·have h1:¬ (cols.length:Int)<=a:=fun z=>hc (decide_eq_true z)
    exact q (by omega)
end
end K01
namespace K01
open PySem L2 L3
theorem call_sortedD' {X:Cx} (hc:X.calm=true):CallR X (.builtin "sorted") (rSortD X.K):=fun pins s σ H xs us Q I r h=>call_sortedD (I.ok.hd hc) pins s σ H xs us Q I r h
section
variable {P:Program} {w:World} {K:PySem.W.Frag} {mg:Str->Option Value} {base:Heap} {f fK C CR CD CN CT:Addr} {fd fdK:FuncData}
def spInit (K:PySem.W.Frag) (C CT:Addr):Sp:=fun vs H Q E=>∃ x dx p cols,vs=[.ref x,.ref p]/\H x=some (.ins C dx [])/\SqL K H p (cols.map V.int)/\(1<=cols.length/\cols.length<=60->∀ c d H',H c=none->H d=none->SameX x H H'->HallAt C H' x dx c d cols []->Q .non H') /\
 (¬ (1<=cols.length/\cols.length<=60)->E (.ref CT) none H)
theorem scInit:FnScope ["self", "colours"] ["self", "colours"] (defScope sInit):=⟨rfl,rfl,rfl,by decide +kernel,rfl,by decide +kernel,by decide +kernel⟩
theorem putF1 (v:V):putF "colours" v []=([("colours",v)]:List (Str×V)):=rfl
theorem putF2 (u v:V):putF "door_table" v ([("colours",u)]:List (Str×V))=([("colours",u),("door_table",v)]:List (Str×V)):=by
 have h:¬ (Str.ofString "colours")=(Str.ofString "door_table"):=by decide +kernel
 simp[putF,h]
theorem ok_init (T:Txt mg) (HC:HallC K mg C) (XT:ExcAt K mg "TooMany" CT) (F:Fun K "__init__" "Hall.__init__" sInit f fd):FnOk P w K mg base (CXE P w) 1 f fd ["self", "colours"] (spInit K C CT):=by
 refine L3.Fun.okE F scInit (fun vs H Q E h=>?_) (fun cdv A outer s H vs Q E hr h=>?_)
 ·obtain⟨x,dx,p,cols,rfl,_⟩:=h
  rfl
 ·obtain⟨x,dx,p,cols,rfl,hx,hp,q,qx⟩:=h
  obtain⟨tr,hmr⟩:=T.rooms
  have gR:∀ {X:Cx} {pos:Pos},X.mg=mg->Gl X "MOST_ROOMS" -> PE X (.Name "MOST_ROOMS" pos) (tC (.int 60)):=fun e g=>pe_glob g (by rw[e]; exact hmr) ⟨tr,rfl⟩
  refine⟨_,pss_cons (ps_if (PW.pt (pw_or (pt_cmpR op_lt (pe_callB call_len_seq rfl T.len PySem.boot_len (pa_cons (pv 1) pa_nil)) pe_int (nomark _))
    (pw_or1 (pt_cmpR op_gt (pe_callB call_len_seq rfl T.len PySem.boot_len (pa_cons (pv 1) pa_nil)) (gR rfl rfl) (nomark _)))))
   (pss_one (ps_raise (E₀:=E) rfl rfl XT.mg XT.xc (pa_cons (pe_join (pj_text (pj_int (gR rfl rfl) (pj_text pj_nil)))) pa_nil) (fun pins σ H s h1 y vs I hm q=>xe_new I hm q))) pss_nil)
   (pss_cons (ps_fld (pv 0) (pe_callTy call_list_of rfl T.list bList (pa_cons (pv 1) pa_nil)) rfl) (pss_one (ps_fld (pv 0) pe_dnewT rfl))),?_⟩
  have tl:(60:Int).natAbs.log2<1920:=by decide +kernel
  refine⟨_,rfl,p,_,rfl,.inl hp,_,_,rfl,rfl,_,rfl,?_⟩
  rw[List.length_map]
  refine ite2 (fun hc=>?_) (fun hc=>?_)
  ·have:(cols.length:Int)<1:=of_decide_eq_true hc
   exact⟨⟨rfl,⟨60,rfl,tl⟩,True.intro⟩,fun y=>⟨show 1<=sizeLine by decide,qx (by omega)⟩⟩
  ·have h0:¬ (cols.length:Int)<1:=fun z=>hc (decide_eq_true z)
   refine⟨_,rfl,p,_,rfl,.inl hp,_,_,rfl,rfl,_,rfl,?_⟩
   rw[List.length_map]
   refine ite2 (fun hc=>?_) (fun hc=>?_)
   ·have:(60:Int)<cols.length:=of_decide_eq_true hc
    exact⟨⟨rfl,⟨60,rfl,tl⟩,True.intro⟩,fun y=>⟨show 1<=sizeLine by decide,qx (by omega)⟩⟩
   ·have h1:¬ (60:Int)<cols.length:=fun z=>hc (decide_eq_true z)
    refine⟨_,rfl,p,_,rfl,.inl hp,fun c hc=>?_⟩
    have xc:x≠c:=ne_of_none hx hc
    refine⟨_,rfl,x,C,dx,_,rfl,by rw[upd_ne xc]; exact hx,HC.cls,HC.nc,by decide,?_⟩
    intro d hd
    have xd:x≠d:=ne_of_none upd_same hd
    rw[upd_ne (Ne.symm xd)] at hd
    have cd:c≠d:=ne_of_none upd_same hd
    rw[upd_ne (Ne.symm cd)] at hd
    refine⟨_,rfl,x,C,dx,_,rfl,by rw[upd_ne xd]; exact upd_same,HC.cls,HC.nd,by rw[putF1]; simp,?_⟩
    refine q (by omega) c d _ hc hd (fun b o n e=>?_) ⟨?_,?_,?_,List.nodup_nil,fun t ht=>absurd ht (by simp)⟩
    ·rw[upd_ne n,upd_ne (ne_of_none e hd),upd_ne n,upd_ne (ne_of_none e hc)]; exact e
    ·rw[upd_same,putF1,putF2]
    ·rw[upd_ne (Ne.symm xc),upd_ne cd,upd_ne (Ne.symm xc),upd_same]
    ·rw[upd_ne (Ne.symm xd),upd_same]; rfl
def spColour (C CR:Addr):Sp:=fun vs H Q E=>∃ h dx c d cols ts a,vs=[.ref h,.int a]/\HallAt C H h dx c d cols ts/\Tell a/\(0<=a/\a<cols.length->Q (.int (cols.getD a.toNat 0)) H)/\(¬ (0<=a/\a<cols.length)->E (.ref CR) none H)
theorem scColour:FnScope ["self", "a"] ["self", "a"] (defScope sColour):=⟨rfl,rfl,rfl,by decide +kernel,rfl,by decide +kernel,by decide +kernel⟩
theorem ok_colour (HC:HallC K mg C) (DK:MetAt K C "check_room" "Hall.check_room" sCheck ["self", "a"] fK fdK) (GK:FnOk P w K mg base (CXE P w) 1 fK fdK ["self", "a"] (spCheck C CR)) (D:MetAt K C "colour" "Hall.colour" sColour ["self", "a"] f fd) :
  FnOk P w K mg base (CXE P w) 2 f fd ["self", "a"] (spColour C CR):=by
 refine L3.Fun.okE D.fn scColour (fun vs H Q E h=>?_) (fun cdv A outer s H vs Q E hr h=>?_)
 ·obtain⟨h,dx,c,d,cols,ts,a,rfl,_⟩:=h
  rfl
 ·obtain⟨h,dx,c,d,cols,ts,a,rfl,hh,ht,q,qx⟩:=h
  refine⟨_,pss_cons (ps_expr (pe_meth (pv 0) HC.cls DK.mt GK hr DK.bd .nil (pass_on (E:=E) fun _ _ _ z=>z) (pa_cons (pv 1) pa_nil)))
   (pss_one (ps_ret (pe_ix ix_list (pe_fld (pv 0) rfl) (pv 1) (fun _ _=>rfl)))),?_⟩
  refine⟨_,rfl,h,dx,_,rfl,hh.ob,rfl,_,rfl,h,dx,c,d,cols,ts,a,rfl,hh,ht,fun hb=>?_,qx⟩
  refine⟨_,rfl,h,C,dx,_,_,rfl,hh.ob,HC.cls,HC.nc,rfl,_,rfl,c,_,a,_,rfl,rfl,SqL.of hh.cl,?_,q hb⟩
  have hl:a.toNat<cols.length:=by omega
  have e:a=(a.toNat:Int):=by omega
  have:atI (cols.map V.int) ((a.toNat:Nat):Int)=some (.int (cols.getD a.toNat 0)):=atI_nat (by rw[List.getElem?_map,List.getElem?_eq_getElem hl]; simp[List.getD,List.getElem?_eq_getElem hl])
  rw[<-e] at this
  exact this
def spOpen (C CR CD CT:Addr):Sp:=fun vs H Q E=>∃ h dx c d cols ts a n b,vs=[.ref h,.int a,.int n,.int b]/\HallAt C H h dx c d cols ts/\ts.length<=1000/\Tell a/\Tell n/\Tell b /\
 (¬ ((0<=a/\a<cols.length)/\(0<=b/\b<cols.length))->E (.ref CR) none H) /\
 ((0<=a/\a<cols.length)/\(0<=b/\b<cols.length)->[a,n,b]∈ts->∀ H',Same H H'->E (.ref CD) none H') /\
 ((0<=a/\a<cols.length)/\(0<=b/\b<cols.length)->[a,n,b]∉ts->400<=ts.length->∀ H',Same H H'->E (.ref CT) none H') /\
 ((0<=a/\a<cols.length)/\(0<=b/\b<cols.length)->[a,n,b]∉ts->ts.length<400->∀ H',SameX d H H'->HallAt C H' h dx c d cols (ts++[[a,n,b]])->Q .non H')
theorem scOpen:FnScope ["self", "a", "name", "b"] ["self", "a", "name", "b"] (defScope sOpen):=⟨rfl,rfl,rfl,by decide +kernel,rfl,by decide +kernel,by decide +kernel⟩
theorem ok_open (T:Txt mg) (HC:HallC K mg C) (XD:ExcAt K mg "DoorThere" CD) (XT:ExcAt K mg "TooMany" CT) (DK:MetAt K C "check_room" "Hall.check_room" sCheck ["self", "a"] fK fdK) (GK:FnOk P w K mg base (CXE P w) 1 fK fdK ["self", "a"] (spCheck C CR))
  (D:MetAt K C "open_door" "Hall.open_door" sOpen ["self", "a", "name", "b"] f fd):FnOk P w K mg base (CXE P w) 2 f fd ["self", "a", "name", "b"] (spOpen C CR CD CT):=by
 refine L3.Fun.okE D.fn scOpen (fun vs H Q E h=>?_) (fun cdv A outer s H vs Q E hr h=>?_)
 ·obtain⟨h,dx,c,d,cols,ts,a,n,b,rfl,_⟩:=h
  rfl
 ·obtain⟨h,dx,c,d,cols,ts,a,n,b,rfl,hh,hz,ha,hn,hb,qR,qD,qT,q⟩:=h
  obtain⟨tr,hmr⟩:=T.doors
  have hu:=hu_of hr
  have gR:∀ {X:Cx} {pos:Pos},X.mg=mg->Gl X "MOST_DOORS" -> PE X (.Name "MOST_DOORS" pos) (tC (.int 400)):=fun e g=>pe_glob g (by rw[e]; exact hmr) ⟨tr,rfl⟩
  refine⟨_,pss_cons (ps_expr (pe_meth (pv 0) HC.cls DK.mt GK hr DK.bd .nil (pass_on (E:=E) fun _ _ _ z=>z) (pa_cons (pv 1) pa_nil)))
   (pss_cons (ps_expr (pe_meth (pv 0) HC.cls DK.mt GK hr DK.bd .nil (pass_on (E:=E) fun _ _ _ z=>z) (pa_cons (pv 3) pa_nil)))
   (pss_cons (ps_if (pt_cmp (pc_din hu (pe_tup (pa_cons (pv 1) (pa_cons (pv 2) (pa_cons (pv 3) pa_nil)))) (pe_fld (pv 0) rfl)))
    (pss_one (ps_raise (E₀:=E) rfl rfl XD.mg XD.xc (pa_cons (pe_join (pj_text (pj_int (pv 2) (pj_text (pj_int (pv 1) (pj_text (pj_int (pv 3) (pj_text pj_nil)))))))) pa_nil) (fun pins σ H s h1 y vs I hm q=>xe_new I hm q))) pss_nil)
   (pss_cons (ps_if (pt_cmpR op_ge (pe_callB call_lenT rfl T.len PySem.boot_len (pa_cons (pe_fld (pv 0) rfl) pa_nil)) (gR rfl rfl) (nomark _))
    (pss_one (ps_raise (E₀:=E) rfl rfl XT.mg XT.xc (pa_cons (pe_join (pj_text (pj_int (gR rfl rfl) (pj_text pj_nil)))) pa_nil) (fun pins σ H s h1 y vs I hm q=>xe_new I hm q))) pss_nil)
   (pss_one (ps_dput hu (pe_fld (pv 0) rfl) (pe_tup (pa_cons (pv 1) (pa_cons (pv 2) (pa_cons (pv 3) pa_nil)))) pe_bl rfl))))),?_⟩
  refine⟨_,rfl,h,dx,_,rfl,hh.ob,rfl,_,rfl,h,dx,c,d,cols,ts,a,rfl,hh,ha,fun h1=>?_,fun h1=>qR fun z=>h1 z.1⟩
  refine⟨_,rfl,h,dx,_,rfl,hh.ob,rfl,_,rfl,h,dx,c,d,cols,ts,b,rfl,hh,hb,fun h2=>?_,fun h2=>qR fun z=>h2 z.2⟩
  refine⟨_,rfl,_,rfl,_,rfl,show 3<=sizeLine by decide,fun p hp=>?_⟩
  have s1:Same H (upd H p (.tup [.int a,.int n,.int b])):=same_new hp
  refine⟨_,rfl,h,C,dx,_,_,rfl,s1 _ _ hh.ob,HC.cls,HC.nd,rfl,d,_,rfl,DGet.t (k:=kI [a,n,b]) (s1 _ _ hh.dt) (by rw[upd_same,kI_v]; rfl),_,rfl,?_⟩
  rw[valV_kvT]
  by_cases hm:[a,n,b]∈ts
  ·rw[if_pos hm]
   refine iteT ?_
   exact⟨⟨_,rfl,rfl,⟨n,rfl,hn⟩,_,rfl,rfl,⟨a,rfl,ha⟩,_,rfl,rfl,⟨b,rfl,hb⟩,True.intro⟩,fun y=>⟨show 1<=sizeLine by decide,qD ⟨h1,h2⟩ hm _ s1⟩⟩
  ·rw[if_neg hm]
   refine iteF ?_
   refine⟨_,rfl,h,C,dx,_,_,rfl,s1 _ _ hh.ob,HC.cls,HC.nd,rfl,d,_,rfl,s1 _ _ hh.dt,_,_,rfl,rfl,_,rfl,?_⟩
   rw[kvT_len]
   refine ite2 (fun hc=>?_) (fun hc=>?_)
   ·have:(400:Int)<=ts.length:=of_decide_eq_true hc
    exact⟨⟨rfl,⟨400,rfl,by decide +kernel⟩,True.intro⟩,fun y=>⟨show 1<=sizeLine by decide,qT ⟨h1,h2⟩ hm (by omega) _ s1⟩⟩
   ·have h3:¬ (400:Int)<=ts.length:=fun z=>hc (decide_eq_true z)
    refine⟨_,rfl,h,C,dx,_,_,rfl,s1 _ _ hh.ob,HC.cls,HC.nd,rfl,_,rfl,_,rfl,_,rfl,show 3<=sizeLine by decide,fun p2 hp2=>?_⟩
    have s2:Same H (upd (upd H p (.tup [.int a,.int n,.int b])) p2 (.tup [.int a,.int n,.int b])):=s1.trans (same_new hp2)
    refine⟨d,_,rfl,DPut.t (k:=kI [a,n,b]) (s2 _ _ hh.dt) (by rw[upd_same,kI_v]; rfl) (by rw[kvT_len]; exact small1000 hz),?_⟩
    rw[putK_kvT hm]
    have sx:=(SameX.of s2).trans (SameX.upd (d:=d) (o:=.dT (kvT (ts++[[a,n,b]]))))
    refine q ⟨h1,h2⟩ hm (by omega) _ sx (hh.put sx upd_same ?_ fun t ht=>?_)
    ·exact List.nodup_append.mpr ⟨hh.nd,by simp,fun x hx y hy e=>hm (by simp at hy; rw[<-hy,← e]; exact hx)⟩
    ·rcases List.mem_append.mp ht with ht | ht
     ·exact hh.th t ht
     ·simp at ht; rw[ht]; rfl
end
end K01
namespace K01
open PySem L2 L3
section
variable {P:Program} {w:World} {K:PySem.W.Frag} {mg:Str->Option Value} {base:Heap} {f fK C CR CD CN CT:Addr} {fd fdK:FuncData}
def spShut (C CR CN:Addr):Sp:=fun vs H Q E=>∃ h dx c d cols ts a n b,vs=[.ref h,.int a,.int n,.int b]/\HallAt C H h dx c d cols ts/\Tell a/\Tell n/\Tell b /\
 (¬ ((0<=a/\a<cols.length)/\(0<=b/\b<cols.length))->E (.ref CR) none H) /\
 ((0<=a/\a<cols.length)/\(0<=b/\b<cols.length)->[a,n,b]∉ts->∀ H',Same H H'->E (.ref CN) none H') /\
 ((0<=a/\a<cols.length)/\(0<=b/\b<cols.length)->[a,n,b]∈ts->∀ H',SameX d H H'->HallAt C H' h dx c d cols (ts.erase [a,n,b])->Q .non H')
theorem scShut:FnScope ["self", "a", "name", "b"] ["self", "a", "name", "b"] (defScope sShut):=⟨rfl,rfl,rfl,by decide +kernel,rfl,by decide +kernel,by decide +kernel⟩
theorem ok_shut (T:Txt mg) (HC:HallC K mg C) (XN:ExcAt K mg "NoDoor" CN) (DK:MetAt K C "check_room" "Hall.check_room" sCheck ["self", "a"] fK fdK) (GK:FnOk P w K mg base (CXE P w) 1 fK fdK ["self", "a"] (spCheck C CR))
  (D:MetAt K C "shut_door" "Hall.shut_door" sShut ["self", "a", "name", "b"] f fd):FnOk P w K mg base (CXE P w) 2 f fd ["self", "a", "name", "b"] (spShut C CR CN):=by
 refine L3.Fun.okE D.fn scShut (fun vs H Q E h=>?_) (fun cdv A outer s H vs Q E hr h=>?_)
 ·obtain⟨h,dx,c,d,cols,ts,a,n,b,rfl,_⟩:=h
  rfl
 ·obtain⟨h,dx,c,d,cols,ts,a,n,b,rfl,hh,ha,hn,hb,qR,qN,q⟩:=h
  have hu:=hu_of hr
  refine⟨_,pss_cons (ps_expr (pe_meth (pv 0) HC.cls DK.mt GK hr DK.bd .nil (pass_on (E:=E) fun _ _ _ z=>z) (pa_cons (pv 1) pa_nil)))
   (pss_cons (ps_expr (pe_meth (pv 0) HC.cls DK.mt GK hr DK.bd .nil (pass_on (E:=E) fun _ _ _ z=>z) (pa_cons (pv 3) pa_nil)))
   (pss_cons (ps_if (pt_cmp (pc_dnotin hu (pe_tup (pa_cons (pv 1) (pa_cons (pv 2) (pa_cons (pv 3) pa_nil)))) (pe_fld (pv 0) rfl)))
    (pss_one (ps_raise (E₀:=E) rfl rfl XN.mg XN.xc (pa_cons (pe_join (pj_text (pj_int (pv 2) (pj_text (pj_int (pv 1) (pj_text (pj_int (pv 3) (pj_text pj_nil)))))))) pa_nil) (fun pins σ H s h1 y vs I hm q=>xe_new I hm q))) pss_nil)
   (pss_one (ps_expr (pe_dpopT hu (pe_fld (pv 0) rfl) (pe_tup (pa_cons (pv 1) (pa_cons (pv 2) (pa_cons (pv 3) pa_nil)))) ⟨rfl,rfl,rfl,rfl⟩))))),?_⟩
  refine⟨_,rfl,h,dx,_,rfl,hh.ob,rfl,_,rfl,h,dx,c,d,cols,ts,a,rfl,hh,ha,fun h1=>?_,fun h1=>qR fun z=>h1 z.1⟩
  refine⟨_,rfl,h,dx,_,rfl,hh.ob,rfl,_,rfl,h,dx,c,d,cols,ts,b,rfl,hh,hb,fun h2=>?_,fun h2=>qR fun z=>h2 z.2⟩
  refine⟨_,rfl,_,rfl,_,rfl,show 3<=sizeLine by decide,fun p hp=>?_⟩
  have s1:Same H (upd H p (.tup [.int a,.int n,.int b])):=same_new hp
  refine⟨_,rfl,h,C,dx,_,_,rfl,s1 _ _ hh.ob,HC.cls,HC.nd,rfl,d,_,rfl,DGet.t (k:=kI [a,n,b]) (s1 _ _ hh.dt) (by rw[upd_same,kI_v]; rfl),_,rfl,?_⟩
  rw[valV_kvT]
  by_cases hm:[a,n,b]∈ts
  ·rw[if_pos hm]
   refine iteF ?_
   refine⟨_,rfl,h,C,dx,_,_,rfl,s1 _ _ hh.ob,HC.cls,HC.nd,rfl,d,rfl,.inr ⟨_,.inl (s1 _ _ hh.dt)⟩,_,rfl,_,rfl,_,rfl,show 3<=sizeLine by decide,fun p2 hp2=>?_⟩
   have s2:Same H (upd (upd H p (.tup [.int a,.int n,.int b])) p2 (.tup [.int a,.int n,.int b])):=s1.trans (same_new hp2)
   refine⟨p2,_,kI [a,n,b],.bl true,rfl,by rw[upd_same,kI_v]; rfl,s2 _ _ hh.dt,by rw[valV_kvT,if_pos hm],?_⟩
   rw[dropK_kvT hh.nd]
   have sx:=(SameX.of s2).trans (SameX.upd (d:=d) (o:=.dT (kvT (ts.erase [a,n,b]))))
   exact q ⟨h1,h2⟩ hm _ sx (hh.put sx upd_same (hh.nd.erase _) fun t ht=>hh.th t (List.mem_of_mem_erase ht))
  ·rw[if_neg hm]
   refine iteT ?_
   exact⟨⟨_,rfl,rfl,⟨n,rfl,hn⟩,_,rfl,rfl,⟨a,rfl,ha⟩,_,rfl,rfl,⟨b,rfl,hb⟩,True.intro⟩,fun y=>⟨show 1<=sizeLine by decide,qN ⟨h1,h2⟩ hm _ s1⟩⟩
def Told (K:PySem.W.Frag) (H:Hp) (l:Addr) (ts:List (List Int)):Prop:=∃ xs,H l=some (.lst xs)/\DenL K H (ts.map tD) xs
theorem Told.len {H:Hp} {ts:List (List Int)} {xs:List V} (h:DenL K H (ts.map tD) xs):xs.length=ts.length:=by
 have:=h.length; rw[List.length_map] at this; exact this.symm
theorem denL_tups {H:Hp}:∀ {ps:List TI'},(∀ q∈ps,SqT K H q.1 (q.2.map V.int))->DenL K H ((ps.map (·.2)).map tD) (ps.map fun q=>V.ref q.1)
 | [],_=>rfl
 | q::r,h=>⟨V.ref q.1,r.map fun q=>V.ref q.1,rfl,⟨q.1,q.2.map V.int,rfl,h q (by simp),denL_ints q.2⟩,denL_tups fun x hx=>h x (by simp[hx])⟩
theorem tups_denL {H:Hp}:∀ {ts:List (List Int)} {xs:List V},DenL K H (ts.map tD) xs->∃ ps:List TI',ps.map (·.2)=ts/\xs=(ps.map fun q=>V.ref q.1)/\∀ q∈ps,SqT K H q.1 (q.2.map V.int)
 | [],xs,h=>⟨[],rfl,h,fun q hq=>absurd hq (by simp)⟩
 | t::r,xs,h=>by
  obtain⟨v,vs,e,⟨p,ys,h1,h2,h3⟩,h4⟩:=(show ∃ v vs,xs=v::vs/\Den K H (tD t) v/\DenL K H (r.map tD) vs from h)
  obtain⟨ps,g1,g2,g3⟩:=tups_denL h4
  have e3:=h3.ints
  refine⟨(p,t)::ps,by simp[g1],by rw[e,h1,g2]; rfl,fun q hq=>?_⟩
  rcases List.mem_cons.mp hq with rfl | hq
  ·rw[<-e3]; exact h2
  ·exact g3 q hq
def spDoors (K:PySem.W.Frag) (C:Addr):Sp:=fun vs H Q _=>∃ h dx c d cols ts,vs=[.ref h]/\HallAt C H h dx c d cols ts/\∀ l ts' H',H l=none->Same H H'->ts'.Perm ts->ts'.Pairwise lxLe->Told K H' l ts'->Q (.ref l) H'
theorem scDoors:FnScope ["self"] ["self"] (defScope sDoors):=⟨rfl,rfl,rfl,by decide +kernel,rfl,by decide +kernel,by decide +kernel⟩
theorem told_new {H:Hp} {l:Addr} {ps:List TI'} (hl:H l=none) (h:∀ q∈ps,SqT K H q.1 (q.2.map V.int)):Told K (upd H l (.lst (ps.map fun q=>V.ref q.1))) l (ps.map (·.2)):=
 ⟨_,upd_same,DenL.mono (same_new hl) _ _ (denL_tups h)⟩
theorem ok_doors (T:Txt mg) (HC:HallC K mg C) (D:MetAt K C "doors" "Hall.doors" sDoors ["self"] f fd):FnOk P w K mg base CX0 1 f fd ["self"] (spDoors K C):=by
 refine D.fn.ok scDoors (fun vs H Q E h=>?_) (fun cdv A outer s H vs Q E hr h=>?_)
 ·obtain⟨h,dx,c,d,cols,ts,rfl,_⟩:=h
  rfl
 ·obtain⟨h,dx,c,d,cols,ts,rfl,hh,q⟩:=h
  refine⟨_,pss_one (ps_ret (pe_callB (call_sortedD' rfl) rfl T.sorted bSorted (pa_cons (pe_fld (pv 0) rfl) pa_nil))),?_⟩
  refine⟨_,rfl,h,C,dx,_,_,rfl,hh.ob,HC.cls,HC.nd,rfl,d,_,ts,rfl,hh.dt,kvT_keys ts,fun t ht e=>?_,fun l ps hl h1 h2 h3=>?_⟩
  ·have:=hh.th t ht
   rw[e] at this; cases this
  ·exact q l _ _ hl (same_new hl) h1 h2 (told_new hl h3)
end
end K01
namespace K01
open PySem L2 L3
theorem call_isinstXK {X:Cx} {K:PySem.W.Frag} {v:V} {c:Value} (rc:RelV v c) (hc:∀ u,RelV v u->u=c) (h:X.K=K:=by rfl):CallR X (.builtin "isinstance") (fun xs H Q=>∃ x C b,xs=[.ref x,v]/\H x=some (exH x C)/\XCls K C/\XAttr K C/\PySem.W.kitOne K (.ref C) c=some b/\Q (.bl b) H):=h ▸ call_isinstX rc hc
theorem SqT.sameX {K:PySem.W.Frag} {H H':Hp} {d q:Addr} {kvs:List (List Key×V)} {xs:List V} (s:SameX d H H') (hd:H d=some (.dT kvs)) (h:SqT K H q xs):SqT K H' q xs:=by
 rcases h with (h | ⟨o,h⟩) | h
 ·exact .inl (.inl (s _ _ (ne_of h hd (fun e=>by cases e)) h))
 ·exact .inl (.inr ⟨o,s _ _ (ne_of h hd (fun e=>by cases e)) h⟩)
 ·exact .inr h
theorem Told.same {K:PySem.W.Frag} {H H':Hp} {l:Addr} {ts:List (List Int)} (s:Same H H') (h:Told K H l ts):Told K H' l ts:=by
 obtain⟨xs,h1,h2⟩:=h
 exact⟨xs,s _ _ h1,DenL.mono s _ _ h2⟩
theorem Told.snoc {K:PySem.W.Frag} {H:Hp} {l p:Addr} {ts:List (List Int)} {t:List Int} {xs:List V} (h1:H l=some (.lst xs)) (h2:DenL K H (ts.map tD) xs) (hp:SqT K H p (t.map V.int)):Told K (upd H l (.lst (xs++[.ref p]))) l (ts++[t]):=by
 obtain⟨ps,g1,g2,g3⟩:=tups_denL h2
 subst g2 g1
 have s:Same (wo H l) (upd H l (.lst ((ps.map fun q=>V.ref q.1)++[.ref p]))):=fun b o e=>by
  by_cases z:b=l
  ·subst z; rw[wo_at] at e; cases e
  ·rw[wo_ne z] at e; rw[upd_ne z]; exact e
 have key:∀ {q:Addr} {ys:List V},SqT K H q ys->SqT K (wo H l) q ys:=fun {q ys} h=>by
  rcases h with (h | ⟨o,h⟩) | h
  ·exact .inl (.inl (by rw[wo_ne (ne_of h h1 (fun e=>by cases e))]; exact h))
  ·exact .inl (.inr ⟨o,by rw[wo_ne (ne_of h h1 (fun e=>by cases e))]; exact h⟩)
  ·exact .inr h
 refine⟨_,upd_same,?_⟩
 have:=denL_tups (K:=K) (H:=wo H l) (ps:=ps++[(p,t)]) fun q hq=>by
  rcases List.mem_append.mp hq with hq | hq
  ·exact key (g3 q hq)
  ·simp at hq; rw[hq]; exact key hp
 simp only[List.map_append,List.map_cons,List.map_nil] at this ⊢
 exact DenL.mono s _ _ this
section
variable {P:Program} {w:World} {K:PySem.W.Frag} {mg:Str->Option Value} {base:Heap} {f fK fO fI C CE CR CD CN CT:Addr} {fd fdK fdO fdI:FuncData}
def cellAt (ns:List Int) (k:Int):Int:=ns.getD k.toNat 0
def spCell (K:PySem.W.Frag):Sp:=fun vs H Q _=>∃ a ns k,vs=[.ref a,.int k]/\SqL K H a (List.map V.int ns)/\0<=k/\Q (.int (cellAt ns k)) H
theorem scCell:FnScope ["script", "k"] ["script", "k"] (defScope sCell):=⟨rfl,rfl,rfl,by decide +kernel,rfl,by decide +kernel,by decide +kernel⟩
theorem atI_int {α:Type} {xs:List α} {k:Int} (h0:0<=k) (h1:k<xs.length) (d:α):atI xs k=some (xs.getD k.toNat d):=by
 have hl:k.toNat<xs.length:=by omega
 have e:k=(k.toNat:Int):=by omega
 have:=atI_nat (xs:=xs) (j:=k.toNat) (v:=xs.getD k.toNat d) (by rw[List.getElem?_eq_getElem hl]; simp[List.getD,List.getElem?_eq_getElem hl])
 rw[<-e] at this
 exact this
theorem getD_map_int (ns:List Int) (i:Nat):(ns.map V.int).getD i (.int 0)=.int (ns.getD i 0):=by
 simp[List.getD,List.getElem?_map]
theorem ok_cell (T:Txt mg) (D:DefAt K mg "_law_cell_at" sCell ["script", "k"] f fd):FnOk P w K mg base CX0 1 f fd ["script", "k"] (spCell K):=by
 refine D.fn.ok scCell (fun vs H Q E h=>?_) (fun cdv A outer s H vs Q E hr h=>?_)
 ·obtain⟨a,ns,k,rfl,_⟩:=h
  rfl
 ·obtain⟨a,ns,k,rfl,hs,h0,q⟩:=h
  refine⟨_,pss_cons (ps_if (pt_cmpR op_lt (pv 1) (pe_callB call_len_seq rfl T.len PySem.boot_len (pa_cons (pv 0) pa_nil)) (nomark _)) (pss_one (ps_ret (pe_ix ix_list (pv 0) (pv 1) (fun _ _=>rfl)))) pss_nil)
   (pss_one (ps_ret pe_int)),?_⟩
  refine⟨_,rfl,_,rfl,a,_,rfl,.inl hs,_,_,rfl,rfl,_,rfl,?_⟩
  refine ite2 (fun hc=>?_) (fun hc=>?_)
  ·have hc':k<(List.map V.int ns).length:=of_decide_eq_true hc
   refine⟨_,rfl,_,rfl,a,_,k,_,rfl,rfl,hs,atI_int h0 hc' (.int 0),?_⟩
   rw[getD_map_int]
   exact q
  ·have hc':¬ k<(List.map V.int ns).length:=fun z=>hc (decide_eq_true z)
   rw[List.length_map] at hc'
   have e:cellAt ns k=0:=by
    unfold cellAt
    rw[List.getD_eq_getElem?_getD,List.getElem?_eq_none (by omega)]
    rfl
   rw[e] at q
   exact q
theorem at0 {α:Type} (a:α) (r:List α):atI (a::r) 0=some a:=atI_nat (j:=0) rfl
theorem at1 {α:Type} (a b:α) (r:List α):atI (a::b::r) 1=some b:=atI_nat (j:=1) rfl
theorem at2 {α:Type} (a b c:α) (r:List α):atI (a::b::c::r) 2=some c:=atI_nat (j:=2) rfl
end
def compScope (e:Expr):Scope:=match e with
 | .ListComp _ _ sc _=>sc
 | _=>{ kind:=.function,names:=[],isGenerator:=false,isCoroutine:=false }
def retExpr (s:Stmt):Expr:=match s with
 | .Return (some e) _=>e
 | _=>.Constant .none 0 ⟨0,0,0,0⟩
def at' (l:List Stmt) (i:Nat):Stmt:=l.getD i (.Pass ⟨0,0,0,0⟩)
abbrev marksD (bs:List Bool):PyData:=.list (bs.map .bool)
theorem den_marks {K:PySem.W.Frag} {H:Hp} {l:Addr} {bs:List Bool} (h:H l=some (.lst (bs.map V.bl))):Den K H (marksD bs) (.ref l):=⟨l,_,rfl,SqL.of h,denL_bools bs⟩
theorem erase_at:∀ {l:List (List Int)} {j:Nat} {x:List Int},l.Nodup->l[j]?=some x->l.erase x=l.take j++l.drop (j+1)
 | y::r,0,x,nd,h=>by
  simp at h; subst h
  rw[List.erase_cons_head]; rfl
 | y::r,j+1,x,nd,h=>by
  have h':r[j]?=some x:=by simpa using h
  have ne:y≠x:=fun e=>(List.nodup_cons.mp nd).1 (e ▸ List.mem_of_getElem? h')
  rw[List.erase_cons_tail (by simpa using ne),erase_at (List.nodup_cons.mp nd).2 h']
  rfl
theorem told_sort {Kf:PySem.W.Frag} {H:Hp} {l:Addr} {ts:List (List Int)} {Q:VK} (h:Told Kf H l ts) (th:∀ t∈ts,t≠[]) (q:∀ l' ts' H',H l'=none->Same H H'->ts'.Perm ts->ts'.Pairwise lxLe->Told Kf H' l' ts'->Q (.ref l') H'):rSortL Kf [.ref l] H Q:=by
 obtain⟨xs,h1,h2⟩:=h
 obtain⟨ps,g1,g2,g3⟩:=tups_denL h2
 subst g1 g2
 refine⟨l,ps,rfl,SqL.of h1,fun q hq=>⟨g3 q hq,th _ (List.mem_map.mpr ⟨q,hq,rfl⟩)⟩,fun l' ps' hl p1 p2 p3=>q l' _ _ hl (same_new hl) p1 p2 (told_new hl p3)⟩
section
variable {K:PySem.W.Frag}
def ToldX (K:PySem.W.Frag) (H:Hp) (l:Addr) (ts:List (List Int)) (xs:List V):Prop:=H l=some (.lst xs)/\DenL K H (ts.map tD) xs
theorem ToldX.sameX {H H':Hp} {d l:Addr} {kvs:List (List Key×V)} {ts:List (List Int)} {xs:List V} (h:ToldX K H l ts xs) (s:SameX d H H') (hd:H d=some (.dT kvs)):ToldX K H' l ts xs:=by
 obtain⟨h1,h2⟩:=h
 obtain⟨ps,g1,g2,g3⟩:=tups_denL h2
 refine⟨s _ _ (ne_of h1 hd (fun e=>by cases e)) h1,?_⟩
 rw[g2,← g1]
 exact denL_tups fun q hq=>SqT.sameX s hd (g3 q hq)
theorem ToldX.at {H:Hp} {l:Addr} {ts:List (List Int)} {xs:List V} {i:Nat} {x:V} (h:ToldX K H l ts xs) (hx:xs[i]?=some x):∃ t p,ts[i]?=some t/\x=.ref p/\SqT K H p (t.map V.int):=by
 obtain⟨h1,h2⟩:=h
 obtain⟨ps,g1,g2,g3⟩:=tups_denL h2
 subst g1 g2
 rw[List.getElem?_map] at hx
 obtain⟨q,hq,rfl⟩:=Option.map_eq_some_iff.mp hx
 exact⟨q.2,q.1,by rw[List.getElem?_map,hq]; rfl,rfl,g3 q (List.mem_of_getElem? hq)⟩
end
theorem take_step {α:Type} {l:List α} {i:Nat} {x:α} (h:l[i]?=some x):l.take (i+1)=l.take i++[x]:=by
 rw[List.take_add_one,h]; rfl
end K01
namespace K01
open PySem L2 L3
section
variable {P:Program} {w:World} {K:PySem.W.Frag} {mg:Str->Option Value} {base:Heap} {f fC fN fB fL fV fI fO C CE CR CD CN CT:Addr} {fd fdC fdN fdB fdL fdV fdI fdO:FuncData}
theorem hu64 {A:Around} {k:Nat} (hr:Room k A):A.units+64<cLine:=Nat.lt_of_le_of_lt (Nat.add_le_add_left (by decide:64<=200) _) (Nat.lt_of_le_of_lt (Nat.add_le_add_right (Nat.le_add_right _ _) _) hr.un)
def namesOf (c:Int):List Int:=if c/11 % 4=1 then (List.range 12).map (fun k:Nat=>c % 980+(k:Int)) else [c % 980,c % 980+1+c/7 % 9,c % 980+11+c/3 % 8]
theorem namesOf_len (c:Int):3<=(namesOf c).length/\(namesOf c).length<=12:=by
 unfold namesOf
 split
 ·simp
 ·simp
theorem namesOf_rng (c:Int):∀ n∈namesOf c,0<=n/\n<1000:=by
 unfold namesOf
 split
 ·intro n hn
  obtain⟨k,hk,rfl⟩:=List.mem_map.mp hn
  rw[List.mem_range] at hk
  omega
 ·intro n hn
  simp at hn
  omega
def spNames:Sp:=fun vs H Q _=>∃ c,vs=[.int c]/\∀ l,H l=none->Q (.ref l) (upd H l (.lst ((namesOf c).map V.int)))
theorem scNames:FnScope ["cell", "base"] ["cell"] (defScope sNames):=⟨rfl,rfl,rfl,by decide +kernel,rfl,by decide +kernel,by decide +kernel⟩
def ifBody (s:Stmt):List Stmt:=match s with
 | .If _ b _ _=>b
 | _=>[]
theorem csNames:CompScope (defScope sNames) ["cell", "base"] (compScope (retExpr (at' (ifBody (at' (defBody sNames) 1)) 0))) ["k", "base"] [none,some 1]:=
 ⟨rfl,by decide +kernel,by decide +kernel,by decide +kernel,rfl,by decide +kernel⟩
theorem ok_names (T:Txt mg) (D:DefAt K mg "_law_names" sNames ["cell"] f fd):FnOk P w K mg base CX0 1 f fd ["cell"] spNames:=by
 refine D.fn.ok scNames (fun vs H Q E h=>?_) (fun cdv A outer s H vs Q E hr h=>?_)
 ·obtain⟨c,rfl,_⟩:=h
  rfl
 ·obtain⟨c,rfl,q⟩:=h
  refine⟨_,pss_cons (ps_set (i:=1) scNames.nd rfl (Or.inr rfl) (pe_op op_mod (pv 0) pe_int))
   (pss_cons (ps_if (pt_cmpR op_eq (pe_op op_mod (pe_op op_fdiv (pv 0) pe_int) pe_int) pe_int (nomark _))
    (pss_one (ps_ret (pe_comp csNames (pi_range1 rfl T.range (pa_cons pe_int pa_nil)) (fun C s₀ H₀ ex=>pg_name (i:=0) csNames.nd' rfl (Or.inl rfl)) (fun C s₀ H₀ ex=>pifs_nil) (fun C s₀ H₀ ex=>pe_op op_add (pv 1) (pv 0))))) pss_nil)
   (pss_one (ps_ret (pe_lst (pa_cons (pv 1) (pa_cons (pe_op op_add (pe_op op_add (pv 1) pe_int) (pe_op op_mod (pe_op op_fdiv (pv 0) pe_int) pe_int))
    (pa_cons (pe_op op_add (pe_op op_add (pv 1) pe_int) (pe_op op_mod (pe_op op_fdiv (pv 0) pe_int) pe_int)) pa_nil))))))),?_⟩
  refine⟨_,rfl,_,_,rfl,rfl,(by show (0:Int)<980; decide),?_⟩
  refine⟨_,rfl,_,_,rfl,rfl,⟨by decide,by decide⟩,_,_,rfl,rfl,(by show (0:Int)<4; decide),rfl,_,rfl,?_⟩
  refine ite2 (fun hc=>?_) (fun hc=>?_)
  ·rw[dec_int] at hc
   have hc':c/11 % 4=1:=of_decide_eq_true hc
   unfold namesOf at q
   rw[if_pos hc'] at q
   refine⟨12,rfl,by decide,by decide,turns_range (lo:=0) (n:=12) (fun i σ ys H'=>H'=H/\(∃ k,σ=[k,some (.int (c % 980))])/\ys=((List.range i).map fun k:Nat=>c % 980+(k:Int)).map V.int) ⟨rfl,⟨none,rfl⟩,rfl⟩ ?_ (by decide) ?_ ?_⟩
   ·rintro i σ ys H' _ ⟨_,_,rfl⟩
    simp
   ·rintro i σ ys H' hi ⟨rfl,⟨k,rfl⟩,rfl⟩
    refine gyes ?_
    rw[Int.zero_add]
    refine⟨_,rfl,_,rfl,_,_,rfl,rfl,rfl,⟨_,rfl⟩,?_⟩
    rw[List.range_succ]
    simp
   ·rintro σ ys H' ⟨rfl,_,rfl⟩
    exact fun p hp=>q p hp
  ·rw[dec_int] at hc
   have hc':¬ c/11 % 4=1:=fun z=>hc (decide_eq_true z)
   unfold namesOf at q
   rw[if_neg hc'] at q
   refine⟨_,rfl,_,rfl,_,_,rfl,rfl,_,rfl,_,_,rfl,rfl,⟨by decide,by decide⟩,_,_,rfl,rfl,(by show (0:Int)<9; decide),_,_,rfl,rfl,?_⟩
   refine⟨_,rfl,_,_,rfl,rfl,_,rfl,_,_,rfl,rfl,⟨by decide,by decide⟩,_,_,rfl,rfl,(by show (0:Int)<8; decide),_,_,rfl,rfl,?_⟩
   exact⟨by show 3<=sizeLine; decide,fun l hl=>q l hl⟩
theorem getD_mem {l:List Int} {i:Nat} (h:i<l.length):l.getD i 0∈l:=by
 rw[List.getD_eq_getElem?_getD,List.getElem?_eq_getElem h]; exact List.getElem_mem h
end
section
variable {P:Program} {w:World} {K:PySem.W.Frag} {mg:Str->Option Value} {base:Heap} {f fN:Addr} {fd fdN:FuncData}
theorem bSet:bootBuiltins "set" = some (.type "set"):=by decide +kernel
theorem bTuple:bootBuiltins "tuple" = some (.type "tuple"):=by decide +kernel
structure Txt2 (mg:Str->Option Value):Prop where
 set:mg "set" = none
 tup:mg "tuple" = none
end
section
variable {P:Program} {w:World} {K:PySem.W.Frag} {mg:Str->Option Value} {base:Heap} {f fS fR fD fP fO fX fH fW C CE CR CB CD CN CT:Addr} {fd fdS fdR fdD fdP fdO fdX fdH fdW:FuncData}
theorem call_isinstQ {X:Cx}:CallR X (.builtin "isinstance") (fun xs H Q=>∃ (a:Addr) (T:String) (t:Value) (b:Bool) (ys:List V),xs=[.ref a,.ty T]/\((SqL X.K H a ys/\t=.type "list")\/(SqT X.K H a ys/\t=.type "tuple"))/\PySem.W.kitOne X.K t (.type T)=some b/\Q (.bl b) H):=by
 intro pins s σ H xs us Q I r h
 obtain⟨a,T,t,b,ys,rfl,hq,e,q⟩:=h
 cases r with
 | cons r1 rr=>
  cases rr with
  | cons r2 rr=>
   cases rr
   rename_i u w'
   obtain rfl:u=Value.ref a:=r1
   obtain rfl:w'=Value.type T:=r2
   rcases hq with ⟨hq,rfl⟩ | ⟨hq,rfl⟩
   ·obtain⟨its,rv,p,hz⟩:=I.list hq
    obtain⟨o,e1,e2,_⟩:=p.isList
    exact PySem.W.kia_one PySem.W.kitx_list I.kIn ⟨o,e1,e2⟩ e (fun z=>nomatch z) fun tk=>⟨.bl b,H,I.tok tk,rfl,q⟩
   ·obtain⟨its,rv,p,hz⟩:=I.tuple hq
    obtain⟨o,e1,e2,_⟩:=p
    exact PySem.W.kia_one PySem.W.kitx_tuple I.kIn ⟨o,e1,e2⟩ e (fun z=>nomatch z) fun tk=>⟨.bl b,H,I.tok tk,rfl,q⟩
end
section
variable {P:Program} {w:World} {K:PySem.W.Frag} {mg:Str->Option Value} {base:Heap} {f fC fN fB fL fV:Addr} {fd fdC fdN fdB fdL fdV:FuncData}
theorem Told.erase {H:Hp} {l:Addr} {ts:List (List Int)} {xs:List V} (h1:H l=some (.lst xs)) (h2:DenL K H (ts.map tD) xs) (k:Nat):Told K (upd H l (.lst (xs.eraseIdx k))) l (ts.eraseIdx k):=by
 obtain⟨ps,g1,g2,g3⟩:=tups_denL h2
 subst g1 g2
 refine⟨_,upd_same,?_⟩
 rw[eraseIdx_mapT,eraseIdx_mapT]
 refine denL_tups fun q hq=>?_
 rcases g3 q (List.mem_of_mem_eraseIdx hq) with (z | ⟨o,z⟩) | z
 ·exact .inl (.inl (by rw[upd_ne (ne_of z h1 (fun e=>by cases e))]; exact z))
 ·exact .inl (.inr ⟨o,by rw[upd_ne (ne_of z h1 (fun e=>by cases e))]; exact z⟩)
 ·exact .inr z
end
section
variable {P:Program} {w:World} {K:PySem.W.Frag} {mg:Str->Option Value} {base:Heap} {f fW:Addr} {fd fdW:FuncData}
def spWhole:Sp:=fun vs H Q _=>∃ i,vs=[.int i]/\Q (.bl true) H
theorem scWhole:FnScope ["found"] ["found"] (defScope sWhole):=⟨rfl,rfl,rfl,by decide +kernel,rfl,by decide +kernel,by decide +kernel⟩
theorem ok_whole (T:Txt mg) (D:DefAt K mg "_law_whole" sWhole ["found"] f fd):FnOk P w K mg base CX0 1 f fd ["found"] spWhole:=by
 refine D.fn.ok scWhole (fun vs H Q E h=>?_) (fun cdv A outer s H vs Q E hr h=>?_)
 ·obtain⟨i,rfl,_⟩:=h
  rfl
 ·obtain⟨i,rfl,q⟩:=h
  refine⟨_,pss_one (ps_ret (pe_and (pe_callB call_isinst rfl T.isi bIsi (pa_cons (pv 0) (pa_cons (pe_bltn (v:=.ty "int") rfl T.int bInt rfl) pa_nil)))
   (pe_one (pe_not (pe_callB call_isinst rfl T.isi bIsi (pa_cons (pv 0) (pa_cons (pe_bltn (v:=.ty "bool") rfl T.bool bBool rfl) pa_nil))))))),?_⟩
  refine⟨_,rfl,_,_,_,_,rfl,.int i,kit_int_int,_,rfl,iteB rfl ?_⟩
  exact⟨_,rfl,_,_,_,_,rfl,.int i,kit_int_bool,_,rfl,q⟩
end
end K01
namespace K01
open PySem L2 L3
section
variable {P:Program} {w:World} {K:PySem.W.Frag} {mg:Str->Option Value} {base:Heap} {f fK C CR:Addr} {fd fdK:FuncData}
def nmsI (ts:List (List Int)) (a:Int):List Int:=(ts.filter fun t=>decide (t.getD 0 0=a)).map fun t=>t.getD 1 0
def wysI (ts:List (List Int)) (a n:Int):List Int:=(ts.filter fun t=>decide (t.getD 0 0=a)&&decide (t.getD 1 0=n)).map fun t=>t.getD 2 0
theorem filt_snoc {p:List Int->Bool} {g:List Int->Int} {ts:List (List Int)} {j:Nat} {t:List Int} (h:ts[j]?=some t):((ts.take (j+1)).filter p).map g=((ts.take j).filter p).map g++(if p t=true then [g t] else []):=by
 rw[take_step h,List.filter_append,List.map_append]
 congr 1
 by_cases e:p t=true
 ·rw[if_pos e,List.filter_cons,if_pos e]; rfl
 ·rw[if_neg e,List.filter_cons,if_neg e]; rfl
theorem filt_len {p:List Int->Bool} {g:List Int->Int} (ts:List (List Int)):((ts.filter p).map g).length<=ts.length:=by rw[List.length_map]; exact List.length_filter_le _ _
theorem tri {t:List Int} (h:t.length=3):∃ x m r,t=[x,m,r]:=by
 match t,h with
 | [x,m,r],_=>exact⟨x,m,r,rfl⟩
theorem kvT_at {ts:List (List Int)} {i:Nat} {k:List Key} {v:V} (h:(kvT ts)[i]?=some (k,v)):∃ t,ts[i]?=some t/\k=kI t:=by
 unfold kvT at h
 rw[List.getElem?_map] at h
 obtain⟨t,ht,e⟩:=Option.map_eq_some_iff.mp h
 injection e with e1 e2
 exact⟨t,ht,e1.symm⟩
theorem kvT_len (ts:List (List Int)):(kvT ts).length=ts.length:=by unfold kvT; rw[List.length_map]
theorem thaw_same {H:Hp} {d:Addr} {o:Obj} {u:HO} {H':Hp} (hd:H d=some u) (s:Same (upd H d (.frz o u)) H'):Same H (upd H' d u):=fun b v e=>by
 by_cases hb:b=d
 ·subst hb
  rw[hd] at e
  cases e
  exact upd_same
 ·rw[upd_ne hb]
  exact s _ _ (by rw[upd_ne hb]; exact e)
def spNamesM (C CR:Addr):Sp:=fun vs H Q E=>∃ h dx c d cols ts a,vs=[.ref h,.int a]/\HallAt C H h dx c d cols ts/\Tell a/\ts.length<=400 /\
 (0<=a/\a<cols.length->∀ (l:Addr) (ms:List Int) (H':Hp),Same H H'->H l=none->ms.Nodup->ms.Pairwise (·<=·)->(∀ x,x∈ms↔x∈nmsI ts a)->H' l=some (.lst (ms.map V.int))->Q (.ref l) H')/\(¬ (0<=a/\a<cols.length)->E (.ref CR) none H)
theorem scNamesM:FnScope ["self", "a"] ["self", "a"] (defScope sNamesM):=⟨rfl,rfl,rfl,by decide +kernel,rfl,by decide +kernel,by decide +kernel⟩
theorem ok_namesm (T:Txt mg) (T2:Txt2 mg) (HC:HallC K mg C) (DK:MetAt K C "check_room" "Hall.check_room" sCheck ["self", "a"] fK fdK) (GK:FnOk P w K mg base (CXE P w) 1 fK fdK ["self", "a"] (spCheck C CR)) (D:MetAt K C "names" "Hall.names" sNamesM ["self", "a"] f fd) :
  FnOk P w K mg base (CXE P w) 2 f fd ["self", "a"] (spNamesM C CR):=by
 refine L3.Fun.okE D.fn scNamesM (fun vs H Q E h=>?_) (fun cdv A outer s H vs Q E hr h=>?_)
 ·obtain⟨h,dx,c,d,cols,ts,a,rfl,_⟩:=h
  rfl
 ·obtain⟨h,dx,c,d,cols,ts,a,rfl,hh,ta,n2,q,qx⟩:=h
  refine⟨_,pss_cons (ps_expr (pe_meth (pv 0) HC.cls DK.mt GK hr DK.bd .nil (pass_on (E:=E) fun _ _ _ z=>z) (pa_cons (pv 1) pa_nil)))
   (pss_one (ps_ret (pe_callB (call_sortNC rfl) rfl T.sorted bSorted (pa_cons (pe_callTy (call_setNC rfl) rfl T2.set bSet (pa_cons (pe_thaw (pe_comp (o:=defScope sNamesM) (N:=["self", "a"]) (N':=["door", "a"]) (src:=[none,some 1]) ⟨by rfl,by decide +kernel,by decide +kernel,by decide +kernel,by rfl,by decide +kernel⟩
    (pi_dictT (pe_fld (pv 0) rfl)) (fun C s₀ H₀ ex=>pg_name (i:=0) (show (["door", "a"]:List Str).Nodup by decide +kernel) rfl (Or.inl rfl)) (fun C s₀ H₀ ex=>pifs_one (pt_cmpR op_eq (pe_ix (ix_tupK (K:=K)) (pv 0) pe_int (fun _ _=>rfl)) (pv 1) (nomark _)))
    (fun C s₀ H₀ ex=>pe_ix (ix_tupK (K:=K)) (pv 0) pe_int (fun _ _=>rfl)))) pa_nil)) pa_nil)))),?_⟩
  refine⟨_,rfl,h,dx,_,rfl,hh.ob,rfl,_,rfl,h,dx,c,d,cols,ts,a,rfl,hh,ta,fun h1=>?_,fun h1=>qx h1⟩
  refine⟨_,rfl,h,C,dx,_,_,rfl,hh.ob,HC.cls,HC.nd,rfl,d,kvT ts,rfl,hh.dt,fun o=>?_⟩
  refine turns_dictT (a:=d) (o:=o) (kvs:=kvT ts) (fun j σ ys H1=>H1=upd H d (.frz o (.dT (kvT ts)))/\(∃ u,σ=[u,some (.int a)])/\ys=(nmsI (ts.take j) a).map V.int) ⟨rfl,⟨none,rfl⟩,rfl⟩ ?_ (by rw[kvT_len]; exact Nat.le_of_lt (small1000 (by omega))) ?_ ?_
  ·rintro j σ ys H1 hj ⟨rfl,_,rfl⟩
   refine⟨upd_same,?_⟩
   have:=filt_len (p:=fun t=>decide (t.getD 0 0=a)) (g:=fun t=>t.getD 1 0) (ts.take j)
   rw[List.length_take] at this
   rw[List.length_map]
   exact Nat.le_trans this (Nat.min_le_left _ _)
  ·rintro j k v p σ ys H1 hk hp ⟨rfl,⟨u,rfl⟩,rfl⟩
   obtain⟨t,ht,rfl⟩:=kvT_at hk
   rw[kI_v] at hp
   obtain⟨x,m,r,rfl⟩:=tri (hh.th t (List.mem_of_getElem? ht))
   have stp:=filt_snoc (p:=fun t=>decide (t.getD 0 0=a)) (g:=fun t=>t.getD 1 0) ht
   refine⟨_,rfl,p,_,0,_,rfl,rfl,SqT.of hp,at0 _ _,_,rfl,rfl,_,rfl,ite2 (fun hc=>?_) (fun hc=>?_)⟩
   ·have e:x=a:=by
     have:V.int x=V.int a:=of_decide_eq_true hc
     injection this
    refine⟨_,rfl,p,_,1,_,rfl,rfl,SqT.of hp,at1 _ _ _,rfl,⟨_,rfl⟩,?_⟩
    unfold nmsI
    rw[stp,if_pos (decide_eq_true (show ([x,m,r]:List Int).getD 0 0=a from e)),List.map_append]; rfl
   ·have e:¬ x=a:=fun z=>hc (by rw[z]; exact decide_eq_true rfl)
    refine⟨rfl,⟨_,rfl⟩,?_⟩
    unfold nmsI
    rw[stp,if_neg (show ¬ decide (([x,m,r]:List Int).getD 0 0=a)=true from fun z=>e (of_decide_eq_true z)),List.append_nil]
  ·rintro σ ys H1 ⟨rfl,_,rfl⟩
   rw[kvT_len,List.take_length]
   intro l1 hl1
   have s1:=same_new hl1 (o:=.lst ((nmsI ts a).map V.int))
   have l1d:l1≠d:=fun z=>by rw[z,upd_same] at hl1; cases hl1
   refine⟨d,o,kvT ts,s1 _ _ upd_same,fun o' u' z=>?_,?_⟩
   ·have:H d=some (.frz o' u'):=z
    rw[hh.dt] at this; cases this
   have sA:=thaw_same hh.dt s1
   have e1:upd (upd (upd H d (.frz o (.dT (kvT ts)))) l1 (.lst ((nmsI ts a).map V.int))) d (.dT (kvT ts)) l1=some (.lst ((nmsI ts a).map V.int)):=by rw[upd_ne l1d]; exact upd_same
   have nl:=filt_len (p:=fun t=>decide (t.getD 0 0=a)) (g:=fun t=>t.getD 1 0) ts
   have nl':(nmsI ts a).length<=400:=Nat.le_trans nl n2
   refine⟨l1,nmsI ts a,rfl,SqL.of e1,by omega,fun x ms hx nd mem ml=>?_⟩
   have s2:=same_new hx (o:=setHN w x ms)
   refine⟨x,ms,rfl,upd_same,by omega,fun l ms' hl p1 p2=>?_⟩
   have s3:=same_new hl (o:=.lst (ms'.map V.int))
   exact q h1 l ms' _ (sA.trans (s2.trans s3)) (sA.free (s2.free hl)) (p1.nodup_iff.mpr nd) p2 (fun y=>(p1.mem_iff).trans (mem y)) upd_same
def spWaysM (C CR:Addr):Sp:=fun vs H Q E=>∃ h dx c d cols ts a n,vs=[.ref h,.int a,.int n]/\HallAt C H h dx c d cols ts/\Tell a/\ts.length<=400 /\
 (0<=a/\a<cols.length->∀ (l:Addr) (ms:List Int) (H':Hp),Same H H'->H l=none->ms.Pairwise (·<=·)->ms.Perm (wysI ts a n)->H' l=some (.lst (ms.map V.int))->Q (.ref l) H')/\(¬ (0<=a/\a<cols.length)->E (.ref CR) none H)
theorem scWays:FnScope ["self", "a", "name"] ["self", "a", "name"] (defScope sWays):=⟨rfl,rfl,rfl,by decide +kernel,rfl,by decide +kernel,by decide +kernel⟩
theorem ok_waysm (T:Txt mg) (HC:HallC K mg C) (DK:MetAt K C "check_room" "Hall.check_room" sCheck ["self", "a"] fK fdK) (GK:FnOk P w K mg base (CXE P w) 1 fK fdK ["self", "a"] (spCheck C CR)) (D:MetAt K C "ways" "Hall.ways" sWays ["self", "a", "name"] f fd) :
  FnOk P w K mg base (CXE P w) 2 f fd ["self", "a", "name"] (spWaysM C CR):=by
 refine L3.Fun.okE D.fn scWays (fun vs H Q E h=>?_) (fun cdv A outer s H vs Q E hr h=>?_)
 ·obtain⟨h,dx,c,d,cols,ts,a,n,rfl,_⟩:=h
  rfl
 ·obtain⟨h,dx,c,d,cols,ts,a,n,rfl,hh,ta,n2,q,qx⟩:=h
  refine⟨_,pss_cons (ps_expr (pe_meth (pv 0) HC.cls DK.mt GK hr DK.bd .nil (pass_on (E:=E) fun _ _ _ z=>z) (pa_cons (pv 1) pa_nil)))
   (pss_one (ps_ret (pe_callB call_sortedI rfl T.sorted bSorted (pa_cons (pe_thaw (pe_comp (o:=defScope sWays) (N:=["self", "a", "name"]) (N':=["door", "a", "name"]) (src:=[none,some 1,some 2]) ⟨by rfl,by decide +kernel,by decide +kernel,by decide +kernel,by rfl,by decide +kernel⟩
    (pi_dictT (pe_fld (pv 0) rfl)) (fun C s₀ H₀ ex=>pg_name (i:=0) (show (["door", "a", "name"]:List Str).Nodup by decide +kernel) rfl (Or.inl rfl)) (fun C s₀ H₀ ex=>pifs_one (PW.pt (pw_and (pt_cmpR op_eq (pe_ix (ix_tupK (K:=K)) (pv 0) pe_int (fun _ _=>rfl)) (pv 1) (nomark _)) (pw_and1 (pt_cmpR op_eq (pe_ix (ix_tupK (K:=K)) (pv 0) pe_int (fun _ _=>rfl)) (pv 2) (nomark _))))))
    (fun C s₀ H₀ ex=>pe_ix (ix_tupK (K:=K)) (pv 0) pe_int (fun _ _=>rfl)))) pa_nil)))),?_⟩
  refine⟨_,rfl,h,dx,_,rfl,hh.ob,rfl,_,rfl,h,dx,c,d,cols,ts,a,rfl,hh,ta,fun h1=>?_,fun h1=>qx h1⟩
  refine⟨_,rfl,h,C,dx,_,_,rfl,hh.ob,HC.cls,HC.nd,rfl,d,kvT ts,rfl,hh.dt,fun o=>?_⟩
  refine turns_dictT (a:=d) (o:=o) (kvs:=kvT ts) (fun j σ ys H1=>H1=upd H d (.frz o (.dT (kvT ts)))/\(∃ u,σ=[u,some (.int a),some (.int n)])/\ys=(wysI (ts.take j) a n).map V.int) ⟨rfl,⟨none,rfl⟩,rfl⟩ ?_ (by rw[kvT_len]; exact Nat.le_of_lt (small1000 (by omega))) ?_ ?_
  ·rintro j σ ys H1 hj ⟨rfl,_,rfl⟩
   refine⟨upd_same,?_⟩
   have:=filt_len (p:=fun t=>decide (t.getD 0 0=a)&&decide (t.getD 1 0=n)) (g:=fun t=>t.getD 2 0) (ts.take j)
   rw[List.length_take] at this
   rw[List.length_map]
   exact Nat.le_trans this (Nat.min_le_left _ _)
  ·rintro j k v p σ ys H1 hk hp ⟨rfl,⟨u,rfl⟩,rfl⟩
   obtain⟨t,ht,rfl⟩:=kvT_at hk
   rw[kI_v] at hp
   obtain⟨x,m,r,rfl⟩:=tri (hh.th t (List.mem_of_getElem? ht))
   have stp:=filt_snoc (p:=fun t=>decide (t.getD 0 0=a)&&decide (t.getD 1 0=n)) (g:=fun t=>t.getD 2 0) ht
   refine⟨_,rfl,p,_,0,_,rfl,rfl,SqT.of hp,at0 _ _,_,rfl,rfl,_,rfl,ite2 (fun hc=>?_) (fun hc=>?_)⟩
   ·have e:x=a:=by
     have:V.int x=V.int a:=of_decide_eq_true hc
     injection this
    refine⟨_,rfl,p,_,1,_,rfl,rfl,SqT.of hp,at1 _ _ _,_,rfl,rfl,_,rfl,ite2 (fun hc2=>?_) (fun hc2=>?_)⟩
    ·have e2:m=n:=by
      have:V.int m=V.int n:=of_decide_eq_true hc2
      injection this
     refine⟨_,rfl,p,_,2,_,rfl,rfl,SqT.of hp,at2 _ _ _ _,rfl,⟨_,rfl⟩,?_⟩
     unfold wysI
     rw[stp,if_pos (by show (decide (x=a)&&decide (m=n))=true; rw[e,e2]; simp),List.map_append]; rfl
    ·have e2:¬ m=n:=fun z=>hc2 (by rw[z]; exact decide_eq_true rfl)
     refine⟨rfl,⟨_,rfl⟩,?_⟩
     unfold wysI
     rw[stp,if_neg (by show ¬ (decide (x=a)&&decide (m=n))=true; simp[e2]),List.append_nil]
   ·have e:¬ x=a:=fun z=>hc (by rw[z]; exact decide_eq_true rfl)
    refine⟨rfl,⟨_,rfl⟩,?_⟩
    unfold wysI
    rw[stp,if_neg (by show ¬ (decide (x=a)&&decide (m=n))=true; simp[e]),List.append_nil]
  ·rintro σ ys H1 ⟨rfl,_,rfl⟩
   rw[kvT_len,List.take_length]
   intro l1 hl1
   have s1:=same_new hl1 (o:=.lst ((wysI ts a n).map V.int))
   have l1d:l1≠d:=fun z=>by rw[z,upd_same] at hl1; cases hl1
   refine⟨d,o,kvT ts,s1 _ _ upd_same,fun o' u' z=>?_,?_⟩
   ·have:H d=some (.frz o' u'):=z
    rw[hh.dt] at this; cases this
   have sA:=thaw_same hh.dt s1
   have e1:upd (upd (upd H d (.frz o (.dT (kvT ts)))) l1 (.lst ((wysI ts a n).map V.int))) d (.dT (kvT ts)) l1=some (.lst ((wysI ts a n).map V.int)):=by rw[upd_ne l1d]; exact upd_same
   refine⟨l1,wysI ts a n,rfl,SqL.of e1,fun l ms' hl p1 p2=>?_⟩
   have s3:=same_new hl (o:=.lst (ms'.map V.int))
   exact q h1 l ms' _ (sA.trans s3) (sA.free hl) p2 p1 upd_same
end
end K01
namespace K01
open PySem L2 L3
theorem kit_tuple_tuple {K:PySem.W.Frag}:PySem.W.kitOne K (.type "tuple") (.type "tuple")=some true:=by unfold PySem.W.kitOne; rw[if_pos (by decide)]
theorem ix_both {X:Cx}:IxR X (fun x y H Q=>rIxL X.K x y H Q\/rIxT X.K x y H Q):=by
 intro value slice pins s σ H x y v u Q I rx ry h hs
 rcases h with h | h
 ·exact ix_list value slice pins s σ H x y v u Q I rx ry h hs
 ·exact ix_tup value slice pins s σ H x y v u Q I rx ry h hs
theorem sorted_le_eq {a b:List Int} (p:a.Perm b) (h1:a.Pairwise (·<=·)) (h2:b.Pairwise (·<=·)):a=b:=p.eq_of_pairwise (fun x y _ _ h k=>Int.le_antisymm h k) h1 h2
section
variable {P:Program} {w:World} {K:PySem.W.Frag} {mg:Str->Option Value} {base:Heap} {f fW fD fS fN fY fL C CR:Addr} {fd fdW fdD fdS fdN fdY fdL:FuncData}
def spSameN (K:PySem.W.Frag):Sp:=fun vs H Q _=>∃ (lf ld:Addr) (ns:List Int),vs=[.ref lf,.ref ld]/\SqL K H lf (ns.map V.int)/\(SqL K H ld (ns.map V.int)\/SqT K H ld (ns.map V.int))/\ns.length<=1000/\Q (.bl true) H
theorem scSameN:FnScope ["found", "due", "k"] ["found", "due"] (defScope sSameN):=⟨rfl,rfl,rfl,by decide +kernel,rfl,by decide +kernel,by decide +kernel⟩
theorem ok_samen (T:Txt mg) (DW:DefAt K mg "_law_whole" sWhole ["found"] fW fdW) (GW:FnOk P w K mg base CX0 1 fW fdW ["found"] spWhole) (D:DefAt K mg "_law_same_numbers" sSameN ["found", "due"] f fd):FnOk P w K mg base CX0 2 f fd ["found", "due"] (spSameN K):=by
 refine D.fn.ok scSameN (fun vs H Q E h=>?_) (fun cdv A outer s H vs Q E hr h=>?_)
 ·obtain⟨lf,ld,ns,rfl,_⟩:=h
  rfl
 ·obtain⟨lf,ld,ns,rfl,hf,hd,n1,q⟩:=h
  have eN:∀ (a:Int),(!decide (V.int a=V.int a))=false:=fun a=>by simp
  refine⟨_,(pss_cons (ps_if (PW.pt (pw_or (pt_not (pt_val (pe_callB call_isinstQ rfl T.isi bIsi (pa_cons (pv 0) (pa_cons (pe_bltn (v:=.ty "list") rfl T.list bList rfl) pa_nil))))) (pw_or1 (pt_cmpR op_ne (pe_callB call_len_seq rfl T.len PySem.boot_len (pa_cons (pv 0) pa_nil)) (pe_callB call_len_seq rfl T.len PySem.boot_len (pa_cons (pv 1) pa_nil)) (nomark _))))) (pss_one (ps_ret pe_bl)) pss_nil) (pss_cons (ps_for PassesOwn.never rfl (pi_range1 rfl T.range (pa_cons (pe_callB call_len_seq rfl T.len PySem.boot_len (pa_cons (pv 1) pa_nil)) pa_nil)) (pg_name (i:=2) scSameN.nd rfl (Or.inl rfl)) (pss_one (ps_if (PW.pt (pw_or (pt_not (pt_val (pe_call GW hr rfl DW.mg DW.fn.kp DW.bd .nil pass0 (pa_cons (pe_ix ix_list (pv 0) (pv 2) (fun _ _=>rfl)) pa_nil)))) (pw_or1 (pt_cmpR op_ne (pe_ix ix_list (pv 0) (pv 2) (fun _ _=>rfl)) (pe_ix ix_both (pv 1) (pv 2) (fun _ _=>rfl)) (nomark _))))) (pss_one (ps_ret pe_bl)) pss_nil))) (pss_one (ps_ret pe_bl)))),?_⟩
  refine⟨_,rfl,lf, "list",_,_,_,rfl,.inl ⟨hf,rfl⟩,kit_list_list,_,rfl,iteF ?_⟩
  refine⟨_,rfl,lf,_,rfl,.inl hf,_,rfl,ld,_,rfl,hd,rfl,_,rfl,iteN (eN _) ?_⟩
  refine⟨_,rfl,ld,_,rfl,hd,?_⟩
  rw[List.length_map]
  refine⟨(ns.length:Int),rfl,by omega,by omega,for_range (lo:=0) (n:=ns.length) (fun i σ H1=>H1=H/\∃ u,σ=[some (.ref lf),some (.ref ld),u]) ⟨rfl,none,rfl⟩ ?_ ?_⟩
  ·rintro i σ H1 hi ⟨rfl,u,rfl⟩
   rw[Int.zero_add]
   have ev:atI (ns.map V.int) (i:Int)=some (.int (ns.getD i 0)):=by
    have:=atI_int (xs:=ns.map V.int) (k:=(i:Int)) (by omega) (by rw[List.length_map]; omega) (.int 0)
    rw[getD_map_int,Int.toNat_natCast] at this; exact this
   have hb:∀ Q':VK,Q' (.int (ns.getD i 0)) H1->rIxL K (.ref ld) (.int i) H1 Q'\/rIxT K (.ref ld) (.int i) H1 Q':=fun Q' z=>by
    rcases hd with hd | hd
    ·exact .inl ⟨ld,_,_,_,rfl,rfl,hd,ev,z⟩
    ·exact .inr ⟨ld,_,_,_,rfl,rfl,hd,ev,z⟩
   refine⟨_,rfl,_,rfl,lf,_,_,_,rfl,rfl,hf,ev,_,rfl,_,rfl,iteF ?_⟩
   refine⟨_,rfl,_,rfl,lf,_,_,_,rfl,rfl,hf,ev,_,rfl,_,rfl,hb _ ?_⟩
   refine⟨rfl,_,rfl,iteN (eN _) ?_⟩
   exact⟨rfl,_,rfl⟩
  ·rintro σ H1 ⟨rfl,u,rfl⟩
   exact q
def spDoorsTold (K:PySem.W.Frag) (C:Addr):Sp:=fun vs H Q _=>∃ (h dx c d ld:Addr) (cs:List Int) (ts us:List (List Int)),vs=[.ref h,.ref ld]/\HallAt C H h dx c d cs ts/\Told K H ld us/\us.Perm ts/\ts.length<=400/\∀ H',Same H H'->Q (.bl true) H'
theorem scDoorsTold:FnScope ["hall", "doors", "found", "due", "k"] ["hall", "doors"] (defScope sDoorsTold):=⟨rfl,rfl,rfl,by decide +kernel,rfl,by decide +kernel,by decide +kernel⟩
theorem ok_doorstold (T:Txt mg) (T2:Txt2 mg) (HC:HallC K mg C) (DD:MetAt K C "doors" "Hall.doors" sDoors ["self"] fD fdD) (GD:FnOk P w K mg base CX0 1 fD fdD ["self"] (spDoors K C)) (DS:DefAt K mg "_law_same_numbers" sSameN ["found", "due"] fS fdS) (GS:FnOk P w K mg base CX0 2 fS fdS ["found", "due"] (spSameN K))
  (D:DefAt K mg "_law_doors_told" sDoorsTold ["hall", "doors"] f fd):FnOk P w K mg base CX0 3 f fd ["hall", "doors"] (spDoorsTold K C):=by
 refine D.fn.ok scDoorsTold (fun vs H Q E h=>?_) (fun cdv A outer s H vs Q E hr h=>?_)
 ·obtain⟨h,dx,c,d,ld,cs,ts,us,rfl,_⟩:=h
  rfl
 ·obtain⟨h,dx,c,d,ld,cs,ts,us,rfl,hh,to,pu,n2,q⟩:=h
  have hr1:Room 1 _:=hr.mono (by decide)
  have eN:∀ (a:Int),(!decide (V.int a=V.int a))=false:=fun a=>by simp
  refine⟨_,(pss_cons (ps_set (i:=2) scDoorsTold.nd rfl (Or.inl rfl) (pe_meth0 (pv 0) HC.cls DD.mt GD hr1 DD.bd .nil pass0)) (pss_cons (ps_set (i:=3) scDoorsTold.nd rfl (Or.inl rfl) (pe_callB call_sortedL rfl T.sorted bSorted (pa_cons (pv 1) pa_nil))) (pss_cons (ps_if (PW.pt (pw_or (pt_not (pt_val (pe_callB call_isinstQ rfl T.isi bIsi (pa_cons (pv 2) (pa_cons (pe_bltn (v:=.ty "list") rfl T.list bList rfl) pa_nil))))) (pw_or1 (pt_cmpR op_ne (pe_callB call_len_seq rfl T.len PySem.boot_len (pa_cons (pv 2) pa_nil)) (pe_callB call_len_seq rfl T.len PySem.boot_len (pa_cons (pv 3) pa_nil)) (nomark _))))) (pss_one (ps_ret pe_bl)) pss_nil) (pss_cons (ps_for PassesOwn.never rfl (pi_range1 rfl T.range (pa_cons (pe_callB call_len_seq rfl T.len PySem.boot_len (pa_cons (pv 3) pa_nil)) pa_nil)) (pg_name (i:=4) scDoorsTold.nd rfl (Or.inl rfl)) (pss_one (ps_if (PW.pt (pw_or (pt_not (pt_val (pe_callB call_isinstQ rfl T.isi bIsi (pa_cons (pe_ix ix_list (pv 2) (pv 4) (fun _ _=>rfl)) (pa_cons (pe_bltn (v:=.ty "tuple") rfl T2.tup bTuple rfl) pa_nil))))) (pw_or (pt_cmpR op_ne (pe_callB call_len_seq rfl T.len PySem.boot_len (pa_cons (pe_ix ix_list (pv 2) (pv 4) (fun _ _=>rfl)) pa_nil)) pe_int (nomark _)) (pw_or1 (pt_not (pt_val (pe_call GS hr rfl DS.mg DS.fn.kp DS.bd .nil pass0 (pa_cons (pe_callTy call_list_of rfl T.list bList (pa_cons (pe_ix ix_list (pv 2) (pv 4) (fun _ _=>rfl)) pa_nil)) (pa_cons (pe_ix ix_list (pv 3) (pv 4) (fun _ _=>rfl)) pa_nil))))))))) (pss_one (ps_ret pe_bl)) pss_nil))) (pss_cons (ps_expr (pe_bm PySem.F.plainAttrs_list PySem.F.slot_list_append PySem.F.type_list_append mt_append (pv 2) (pa_cons (pe_tup (pa_cons pe_int (pa_cons pe_int (pa_cons pe_int pa_nil)))) pa_nil))) (pss_one (ps_ret pe_bl))))))),?_⟩
  refine⟨_,rfl,h,dx,_,rfl,hh.ob,rfl,h,dx,c,d,cs,ts,rfl,hh,fun lf tf H1 hlf s1 pf sf tof=>?_⟩
  refine⟨_,rfl,?_⟩
  dsimp only[tNil]
  refine told_sort (Kf:=K) (ts:=us) (Told.same s1 to) (fun t ht e=>by
   have:=hh.th t (pu.subset ht)
   rw[e] at this; cases this) fun lg tg H2 hlg s2 pg sg tog=>?_
  have eT:tf=tg:=perm_sorted (pf.trans (pu.symm.trans pg.symm)) sf sg
  subst eT
  obtain⟨xs,x1,x2⟩:=id (Told.same s2 tof)
  obtain⟨ys,y1,y2⟩:=id tog
  have xl:xs.length=tf.length:=Told.len x2
  have yl:ys.length=tf.length:=Told.len y2
  have tl:tf.length<=400:=by rw[pf.length_eq]; exact n2
  refine⟨_,rfl,lf, "list",_,_,_,rfl,.inl ⟨SqL.of x1,rfl⟩,kit_list_list,_,rfl,iteF ?_⟩
  refine⟨_,rfl,lf,_,rfl,.inl (SqL.of x1),_,rfl,lg,_,rfl,.inl (SqL.of y1),rfl,_,rfl,iteN (by rw[xl,yl]; exact eN _) ?_⟩
  refine⟨_,rfl,lg,_,rfl,.inl (SqL.of y1),?_⟩
  rw[yl]
  refine⟨(tf.length:Int),rfl,by omega,by omega,for_range (lo:=0) (n:=tf.length) (fun i σ H3=>Same H2 H3/\∃ u,σ=[some (.ref h),some (.ref ld),some (.ref lf),some (.ref lg),u]) ⟨Same.refl _,none,rfl⟩ ?_ ?_⟩
  ·rintro i σ H3 hi ⟨s3,u,rfl⟩
   rw[Int.zero_add]
   have hx:xs[i]?=some xs[i]:=List.getElem?_eq_getElem (by omega)
   have hy:ys[i]?=some ys[i]:=List.getElem?_eq_getElem (by omega)
   obtain⟨t,pt,ht,ex,hpt⟩:=ToldX.at ⟨x1,x2⟩ hx
   obtain⟨t',pt',ht',ey,hpt'⟩:=ToldX.at ⟨y1,y2⟩ hy
   rw[ht] at ht'
   cases ht'
   have ax:atI xs (i:Int)=some (.ref pt):=atI_nat (by rw[hx,ex])
   have ay:atI ys (i:Int)=some (.ref pt'):=atI_nat (by rw[hy,ey])
   obtain⟨a,m,b,rfl⟩:=tri (hh.th t (pf.subset (List.mem_of_getElem? ht)))
   have x3:=s3 _ _ x1
   have p3:=Same.seqT s3 hpt
   refine⟨_,rfl,_,rfl,lf,_,_,_,rfl,rfl,SqL.of x3,ax,pt, "tuple",_,_,_,rfl,.inr ⟨p3,rfl⟩,kit_tuple_tuple,_,rfl,iteF ?_⟩
   refine⟨_,rfl,_,rfl,lf,_,_,_,rfl,rfl,SqL.of x3,ax,pt,_,rfl,.inr p3,rfl,_,rfl,iteN (eN _) ?_⟩
   refine⟨_,rfl,_,rfl,lf,_,_,_,rfl,rfl,SqL.of x3,ax,pt,_,rfl,.inr p3,fun l1 hl1=>?_⟩
   have s4:=same_new hl1 (o:=.lst ([a,m,b].map V.int))
   refine⟨_,rfl,_,rfl,lg,_,_,_,rfl,rfl,SqL.of (s4 _ _ (s3 _ _ y1)),ay,l1,pt',[a,m,b],rfl,SqL.of upd_same,.inr (Same.seqT s4 (Same.seqT s3 hpt')),(by show 3<=1000; decide),_,rfl,iteF ?_⟩
   exact⟨s3.trans s4,_,rfl⟩
  ·rintro σ H3 ⟨s3,u,rfl⟩
   have x3:=s3 _ _ x1
   refine⟨_,rfl,.inl ⟨rfl,_,SqL.of x3⟩,show 3<=sizeLine by decide,fun p hp=>?_⟩
   have s4:=same_new hp (o:=.tup [.int 0,.int 0,.int 0])
   refine⟨lf,xs,_,rfl,rfl,s4 _ _ x3,by rw[xl]; exact small1000 (by omega),?_⟩
   exact q _ (L3.Same.putD (s1.trans (s2.trans (s3.trans s4))) hlf)
def spRoomTold (K:PySem.W.Frag) (C:Addr):Sp:=fun vs H Q _=>∃ (h dx c d ld lc:Addr) (cs:List Int) (ts us:List (List Int)) (a n:Int),vs=[.ref h,.ref ld,.ref lc,.int a,.int n]/\HallAt C H h dx c d cs ts/\Told K H ld us/\us.Perm ts/\SqL K H lc (cs.map V.int)/\Tell a/\cs.length<=60/\ts.length<=400/\∀ H',Same H H'->Q (.bl true) H'
theorem scRoomTold:FnScope ["hall", "doors", "colours", "a", "name", "ways", "names", "found"] ["hall", "doors", "colours", "a", "name"] (defScope sRoomTold):=⟨rfl,rfl,rfl,by decide +kernel,rfl,by decide +kernel,by decide +kernel⟩
theorem ok_roomtold (T:Txt mg) (T2:Txt2 mg) (HC:HallC K mg C) (DN:MetAt K C "names" "Hall.names" sNamesM ["self", "a"] fN fdN) (GN:FnOk P w K mg base (CXE P w) 2 fN fdN ["self", "a"] (spNamesM C CR)) (DY:MetAt K C "ways" "Hall.ways" sWays ["self", "a", "name"] fY fdY) (GY:FnOk P w K mg base (CXE P w) 2 fY fdY ["self", "a", "name"] (spWaysM C CR))
  (DL:MetAt K C "colour" "Hall.colour" sColour ["self", "a"] fL fdL) (GL:FnOk P w K mg base (CXE P w) 2 fL fdL ["self", "a"] (spColour C CR)) (DS:DefAt K mg "_law_same_numbers" sSameN ["found", "due"] fS fdS) (GS:FnOk P w K mg base CX0 2 fS fdS ["found", "due"] (spSameN K)) (DW:DefAt K mg "_law_whole" sWhole ["found"] fW fdW) (GW:FnOk P w K mg base CX0 1 fW fdW ["found"] spWhole)
  (D:DefAt K mg "_law_room_told" sRoomTold ["hall", "doors", "colours", "a", "name"] f fd):FnOk P w K mg base CX0 3 f fd ["hall", "doors", "colours", "a", "name"] (spRoomTold K C):=by
 have GN0:=L3.FnOk.to0 GN (fun vs H Q _=>spNamesM C CR vs H Q E0) fun _ _ _ _ h=>h
 have GY0:=L3.FnOk.to0 GY (fun vs H Q _=>spWaysM C CR vs H Q E0) fun _ _ _ _ h=>h
 have GL0:=L3.FnOk.to0 GL (fun vs H Q _=>spColour C CR vs H Q E0) fun _ _ _ _ h=>h
 refine D.fn.ok scRoomTold (fun vs H Q E h=>?_) (fun cdv A outer s H vs Q E hr h=>?_)
 ·obtain⟨h,dx,c,d,ld,lc,cs,ts,us,a,n,rfl,_⟩:=h
  rfl
 ·obtain⟨h,dx,c,d,ld,lc,cs,ts,us,a,n,rfl,hh,to,pu,hc,ta,n1,n2,q⟩:=h
  have hr1:Room 1 _:=hr.mono (by decide)
  refine⟨_,(pss_cons (ps_if (PW.pt (pw_or (pt_cmpR op_lt (pv 3) pe_int (nomark _)) (pw_or1 (pt_cmpR op_ge (pv 3) (pe_callB call_len_seq rfl T.len PySem.boot_len (pa_cons (pv 2) pa_nil)) (nomark _))))) (pss_one (ps_ret pe_bl)) pss_nil) (pss_cons (ps_set (i:=5) scRoomTold.nd rfl (Or.inl rfl) (pe_meth (pv 0) HC.cls DY.mt GY0 hr DY.bd .nil pass0 (pa_cons (pv 3) (pa_cons (pv 4) pa_nil)))) (pss_cons (ps_set (i:=6) scRoomTold.nd rfl (Or.inl rfl) (pe_meth (pv 0) HC.cls DN.mt GN0 hr DN.bd .nil pass0 (pa_cons (pv 3) pa_nil))) (pss_cons (ps_if (pt_not (pt_val (pe_call GS hr rfl DS.mg DS.fn.kp DS.bd .nil pass0 (pa_cons (pv 5) (pa_cons (pe_callB call_sortedI rfl T.sorted bSorted (pa_cons (pe_comp (o:=(defScope sRoomTold)) (N:=["hall", "doors", "colours", "a", "name", "ways", "names", "found"]) (N':=["door", "a", "name"]) (src:=[none,some 3,some 4]) ⟨by rfl,by decide +kernel,by decide +kernel,by decide +kernel,by rfl,by decide +kernel⟩ (pi_list (pv 1)) (fun C s₀ H₀ ex=>(pg_name (i:=0) (show (["door", "a", "name"]:List Str).Nodup by decide +kernel) rfl (Or.inl rfl))) (fun C s₀ H₀ ex=>(pifs_one (PW.pt (pw_and (pt_cmpR op_eq (pe_ix (ix_tupK (K:=K)) (pv 0) pe_int (fun _ _=>rfl)) (pv 1) (nomark _)) (pw_and1 (pt_cmpR op_eq (pe_ix (ix_tupK (K:=K)) (pv 0) pe_int (fun _ _=>rfl)) (pv 2) (nomark _))))))) (fun C s₀ H₀ ex=>(pe_ix (ix_tupK (K:=K)) (pv 0) pe_int (fun _ _=>rfl)))) pa_nil)) pa_nil))))) (pss_one (ps_ret pe_bl)) pss_nil) (pss_cons (ps_if (pt_not (pt_val (pe_call GS hr rfl DS.mg DS.fn.kp DS.bd .nil pass0 (pa_cons (pv 6) (pa_cons (pe_callB (call_sortNC rfl) rfl T.sorted bSorted (pa_cons (pe_callTy (call_setNC rfl) rfl T2.set bSet (pa_cons (pe_comp (o:=(defScope sRoomTold)) (N:=["hall", "doors", "colours", "a", "name", "ways", "names", "found"]) (N':=["door", "a"]) (src:=[none,some 3]) ⟨by rfl,by decide +kernel,by decide +kernel,by decide +kernel,by rfl,by decide +kernel⟩ (pi_list (pv 1)) (fun C s₀ H₀ ex=>(pg_name (i:=0) (show (["door", "a"]:List Str).Nodup by decide +kernel) rfl (Or.inl rfl))) (fun C s₀ H₀ ex=>(pifs_one (pt_cmpR op_eq (pe_ix (ix_tupK (K:=K)) (pv 0) pe_int (fun _ _=>rfl)) (pv 1) (nomark _)))) (fun C s₀ H₀ ex=>(pe_ix (ix_tupK (K:=K)) (pv 0) pe_int (fun _ _=>rfl)))) pa_nil)) pa_nil)) pa_nil))))) (pss_one (ps_ret pe_bl)) pss_nil) (pss_cons (ps_expr (pe_bm PySem.F.plainAttrs_list PySem.F.slot_list_append PySem.F.type_list_append mt_append (pv 5) (pa_cons pe_int pa_nil))) (pss_cons (ps_expr (pe_bm0 PySem.F.plainAttrs_list PySem.F.slot_list_clear PySem.F.type_list_clear mt_clear (pv 6))) (pss_cons (ps_set (i:=7) scRoomTold.nd rfl (Or.inl rfl) (pe_meth (pv 0) HC.cls DL.mt GL0 hr DL.bd .nil pass0 (pa_cons (pv 3) pa_nil))) (pss_one (ps_ret (pe_and (pe_call GW hr1 rfl DW.mg DW.fn.kp DW.bd .nil pass0 (pa_cons (pv 7) pa_nil)) (pe_one (pe_cmpR op_eq (pv 7) (pe_ix ix_list (pv 2) (pv 3) (fun _ _=>rfl)) (nomark _)))))))))))))),?_⟩
  refine⟨_,rfl,_,_,rfl,rfl,_,rfl,ite2 (fun hc0=>q _ (Same.refl _)) (fun hc0=>?_)⟩
  have a0:0<=a:=by
   have:¬ a<0:=fun z=>hc0 (decide_eq_true z)
   omega
  refine⟨_,rfl,_,rfl,lc,_,rfl,.inl hc,_,_,rfl,rfl,_,rfl,?_⟩
  rw[List.length_map]
  refine ite2 (fun hc1=>q _ (Same.refl _)) (fun hc1=>?_)
  have a1:a<cs.length:=by
   have:¬ ((cs.length:Nat):Int)<=a:=fun z=>hc1 (decide_eq_true z)
   omega
  refine⟨_,rfl,h,dx,_,rfl,hh.ob,rfl,_,rfl,_,rfl,h,dx,c,d,cs,ts,a,n,rfl,hh,ta,n2,fun _ lw ms H1 s1 lw0 pw pm e1=>?_,fun z=>absurd ⟨a0,a1⟩ z⟩
  have hh1:=hh.same s1
  refine⟨_,rfl,h,dx,_,rfl,hh1.ob,rfl,_,rfl,h,dx,c,d,cs,ts,a,rfl,hh1,ta,n2,fun _ ln ks H2 s2 ln0 nd pk mk e2=>?_,fun z=>absurd ⟨a0,a1⟩ z⟩
  have s12:=s1.trans s2
  have ul:us.length<=400:=by rw[pu.length_eq]; exact n2
  obtain⟨xs,x1,x2⟩:=id (Told.same s12 to)
  have xl:xs.length=us.length:=Told.len x2
  have tri':∀ t∈us,∃ x m r,t=[x,m,r]:=fun t ht=>tri (hh.th t (pu.subset ht))
  refine⟨_,rfl,_,rfl,ld,rfl,⟨_,SqL.of x1⟩,turns_list (K:=K) (a:=ld) (xs:=xs) (fun j σ ys H3=>H3=H2/\(∃ u,σ=[u,some (.int a),some (.int n)])/\ys=(wysI (us.take j) a n).map V.int) ⟨rfl,⟨none,rfl⟩,rfl⟩ ?_ (Nat.le_of_lt (small1000 (by omega))) ?_ ?_⟩
  ·rintro j σ ys H3 hj ⟨rfl,_,rfl⟩
   refine⟨SqL.of x1,?_⟩
   have:=filt_len (p:=fun t=>decide (t.getD 0 0=a)&&decide (t.getD 1 0=n)) (g:=fun t=>t.getD 2 0) (us.take j)
   rw[List.length_take] at this
   rw[List.length_map]
   exact Nat.le_trans this (Nat.min_le_left _ _)
  ·rintro j xv σ ys H3 hx ⟨rfl,⟨u,rfl⟩,rfl⟩
   obtain⟨t,p,ht,rfl,hp⟩:=ToldX.at ⟨x1,x2⟩ hx
   obtain⟨x,m,r,rfl⟩:=tri' t (List.mem_of_getElem? ht)
   have stp:=filt_snoc (p:=fun t=>decide (t.getD 0 0=a)&&decide (t.getD 1 0=n)) (g:=fun t=>t.getD 2 0) ht
   refine⟨_,rfl,p,_,0,_,rfl,rfl,hp,at0 _ _,_,rfl,rfl,_,rfl,ite2 (fun hc=>?_) (fun hc=>?_)⟩
   ·have e:x=a:=by
     have:V.int x=V.int a:=of_decide_eq_true hc
     injection this
    refine⟨_,rfl,p,_,1,_,rfl,rfl,hp,at1 _ _ _,_,rfl,rfl,_,rfl,ite2 (fun hc2=>?_) (fun hc2=>?_)⟩
    ·have e2:m=n:=by
      have:V.int m=V.int n:=of_decide_eq_true hc2
      injection this
     refine⟨_,rfl,p,_,2,_,rfl,rfl,hp,at2 _ _ _ _,rfl,⟨_,rfl⟩,?_⟩
     unfold wysI
     rw[stp,if_pos (by show (decide (x=a)&&decide (m=n))=true; rw[e,e2]; simp),List.map_append]; rfl
    ·have e2:¬ m=n:=fun z=>hc2 (by rw[z]; exact decide_eq_true rfl)
     refine⟨rfl,⟨_,rfl⟩,?_⟩
     unfold wysI
     rw[stp,if_neg (by show ¬ (decide (x=a)&&decide (m=n))=true; simp[e2]),List.append_nil]
   ·have e:¬ x=a:=fun z=>hc (by rw[z]; exact decide_eq_true rfl)
    refine⟨rfl,⟨_,rfl⟩,?_⟩
    unfold wysI
    rw[stp,if_neg (by show ¬ (decide (x=a)&&decide (m=n))=true; simp[e]),List.append_nil]
  rintro σ ys H3 ⟨rfl,_,rfl⟩
  rw[xl,List.take_length]
  intro l1 hl1
  have s3:=same_new hl1 (o:=.lst ((wysI us a n).map V.int))
  refine⟨l1,wysI us a n,rfl,SqL.of upd_same,fun l2 ms2 hl2 p2 q2=>?_⟩
  have s4:=same_new hl2 (o:=.lst (ms2.map V.int))
  have pwy:(wysI us a n).Perm (wysI ts a n):=(pu.filter _).map _
  obtain rfl:ms=ms2:=sorted_le_eq (pm.trans (pwy.symm.trans p2.symm)) pw q2
  have ml:ms.length<=1000:=by
   have h1:=pm.length_eq
   have h2:=filt_len (p:=fun t=>decide (t.getD 0 0=a)&&decide (t.getD 1 0=n)) (g:=fun t=>t.getD 2 0) ts
   have h3:(wysI ts a n).length<=ts.length:=h2
   omega
  have s24:=s3.trans s4
  refine⟨lw,l2,ms,rfl,SqL.of (s24 _ _ (s2 _ _ e1)),.inl (SqL.of upd_same),ml,_,rfl,iteF ?_⟩
  have s14:=s12.trans s24
  obtain⟨zs,z1,z2⟩:=id (Told.same s24 ⟨xs,x1,x2⟩)
  have zl:zs.length=us.length:=Told.len z2
  generalize hH4:upd (upd H3 l1 (.lst ((wysI us a n).map V.int))) l2 (.lst (ms.map V.int))=H4 at s24 s14 z1 z2 ⊢
  refine⟨_,rfl,_,rfl,ld,rfl,⟨_,SqL.of z1⟩,turns_list (K:=K) (a:=ld) (xs:=zs) (fun j σ ys H5=>H5=H4/\(∃ u,σ=[u,some (.int a)])/\ys=(nmsI (us.take j) a).map V.int) ⟨rfl,⟨none,rfl⟩,rfl⟩ ?_ (Nat.le_of_lt (small1000 (by omega))) ?_ ?_⟩
  ·rintro j σ ys H5 hj ⟨rfl,_,rfl⟩
   refine⟨SqL.of z1,?_⟩
   have:=filt_len (p:=fun t=>decide (t.getD 0 0=a)) (g:=fun t=>t.getD 1 0) (us.take j)
   rw[List.length_take] at this
   rw[List.length_map]
   exact Nat.le_trans this (Nat.min_le_left _ _)
  ·rintro j xv σ ys H5 hx ⟨rfl,⟨u,rfl⟩,rfl⟩
   obtain⟨t,p,ht,rfl,hp⟩:=ToldX.at ⟨z1,z2⟩ hx
   obtain⟨x,m,r,rfl⟩:=tri' t (List.mem_of_getElem? ht)
   have stp:=filt_snoc (p:=fun t=>decide (t.getD 0 0=a)) (g:=fun t=>t.getD 1 0) ht
   refine⟨_,rfl,p,_,0,_,rfl,rfl,hp,at0 _ _,_,rfl,rfl,_,rfl,ite2 (fun hc=>?_) (fun hc=>?_)⟩
   ·have e:x=a:=by
     have:V.int x=V.int a:=of_decide_eq_true hc
     injection this
    refine⟨_,rfl,p,_,1,_,rfl,rfl,hp,at1 _ _ _,rfl,⟨_,rfl⟩,?_⟩
    unfold nmsI
    rw[stp,if_pos (decide_eq_true (show ([x,m,r]:List Int).getD 0 0=a from e)),List.map_append]; rfl
   ·have e:¬ x=a:=fun z=>hc (by rw[z]; exact decide_eq_true rfl)
    refine⟨rfl,⟨_,rfl⟩,?_⟩
    unfold nmsI
    rw[stp,if_neg (show ¬ decide (([x,m,r]:List Int).getD 0 0=a)=true from fun z=>e (of_decide_eq_true z)),List.append_nil]
  rintro σ ys H5 ⟨rfl,_,rfl⟩
  rw[zl,List.take_length]
  intro l3 hl3
  have s5:=same_new hl3 (o:=.lst ((nmsI us a).map V.int))
  have nlen:(nmsI us a).length<=us.length:=filt_len us
  refine⟨l3,nmsI us a,rfl,SqL.of upd_same,by omega,fun x ms3 hx nd3 mem3 ml3=>?_⟩
  have s6:=same_new hx (o:=setHN w x ms3)
  refine⟨x,ms3,rfl,upd_same,by omega,fun l4 ms4 hl4 p4 q4=>?_⟩
  have s7:=same_new hl4 (o:=.lst (ms4.map V.int))
  have s57:=s5.trans (s6.trans s7)
  have pnm:(nmsI us a).Perm (nmsI ts a):=(pu.filter _).map _
  obtain rfl:ks=ms4:=sorted_le_eq ((List.perm_ext_iff_of_nodup nd (p4.nodup_iff.mpr nd3)).mpr fun y=>(mk y).trans (pnm.mem_iff.symm.trans ((mem3 y).symm.trans p4.mem_iff.symm))) pk q4
  have kl:ks.length<=1000:=by
   have:=p4.length_eq
   omega
  have e2':=s57 _ _ (s24 _ _ e2)
  refine⟨ln,l4,ks,rfl,SqL.of e2',.inl (SqL.of upd_same),kl,_,rfl,iteF ?_⟩
  have S:=s14.trans s57
  have ew:=s57 _ _ (s24 _ _ (s2 _ _ e1))
  have lwl:lw≠ln:=fun z=>by
   have:=ln0
   rw[<-z,e1] at this; cases this
  refine⟨_,rfl,.inl ⟨rfl,_,SqL.of ew⟩,lw,_,_,rfl,rfl,ew,by rw[List.length_map]; exact small1000 ml,?_⟩
  have S2:=L3.Same.putD (o:=.lst (ms.map V.int++[.int 0])) S lw0
  refine⟨_,rfl,.inl ⟨rfl,_,SqL.of (by rw[upd_ne (Ne.symm lwl)]; exact e2')⟩,ln,_,rfl,rfl,by rw[upd_ne (Ne.symm lwl)]; exact e2',?_⟩
  have S3:=L3.Same.putD (o:=.lst []) S2 (s1.free ln0)
  have hh3:=hh.same S3
  have hc3:=S3.seq hc
  obtain⟨b,rfl⟩ : ∃ b:Nat,a=(b:Int):=⟨a.toNat,by omega⟩
  refine⟨_,rfl,h,dx,_,rfl,hh3.ob,rfl,_,rfl,h,dx,c,d,cs,ts,(b:Int),rfl,hh3,ta,fun _=>?_,fun z=>absurd ⟨a0,a1⟩ z⟩
  have ev:atI (cs.map V.int) (b:Int)=some (.int (cs.getD (b:Int).toNat 0)):=by rw[atI_int (by omega) (by rw[List.length_map]; omega) (.int 0),getD_map_int]
  refine⟨_,rfl,_,rfl,_,rfl,iteB rfl ?_⟩
  refine⟨_,rfl,_,rfl,_,rfl,lc,_,_,_,rfl,rfl,hc3,ev,rfl,?_⟩
  have:decide (V.int (cs.getD (b:Int).toNat 0)=V.int (cs.getD (b:Int).toNat 0))=true:=decide_eq_true rfl
  rw[this]
  exact q _ S3
end
end K01
namespace K01
open PySem L2 L3
structure ExL (K:PySem.W.Frag) (mg:Str->Option Value) (CE CR CN CD CT:Addr):Prop where
 e:ExcAt K mg "HallError" CE
 r:ExcAt K mg "NoRoom" CR
 n:ExcAt K mg "NoDoor" CN
 d:ExcAt K mg "DoorThere" CD
 t:ExcAt K mg "TooMany" CT
 ure:Under K CR CE
 une:Under K CN CE
 ude:Under K CD CE
 utt:Under K CT CT
 rr:PySem.W.kitOne K (.ref CR) (.ref CR)=some true
 rd:PySem.W.kitOne K (.ref CR) (.ref CD)=some false
 rn:PySem.W.kitOne K (.ref CR) (.ref CN)=some false
 dr:PySem.W.kitOne K (.ref CD) (.ref CR)=some false
 dd:PySem.W.kitOne K (.ref CD) (.ref CD)=some true
 dn:PySem.W.kitOne K (.ref CD) (.ref CN)=some false
 nr:PySem.W.kitOne K (.ref CN) (.ref CR)=some false
 nd:PySem.W.kitOne K (.ref CN) (.ref CD)=some false
 nn:PySem.W.kitOne K (.ref CN) (.ref CN)=some true
 te:PySem.W.kitOne K (.ref CT) (.ref CE)=some true
 rv:PySem.W.kitOne K (.ref CR) (.type "ValueError")=some true
 dv:PySem.W.kitOne K (.ref CD) (.type "ValueError")=some true
 nv:PySem.W.kitOne K (.ref CN) (.type "ValueError")=some true
 tv:PySem.W.kitOne K (.ref CT) (.type "ValueError")=some true
 ve:mg "ValueError" = none
theorem bVE:bootBuiltins "ValueError" = some (.type "ValueError"):=by decide +kernel
def duM (n:Nat) (ts:List (List Int)) (kind a x b:Int):List Bool:=
 if (0<=a/\a<n)/\(0<=b/\b<n) then
  if kind=0 then (if [a,x,b]∈ts then [false,true,false,true] else []) else (if [a,x,b]∈ts then [] else [false,false,true,true])
 else [true,false,false,true]
def nxT (n:Nat) (ts:List (List Int)) (kind a x b:Int):List (List Int):=if duM n ts kind a x b=[] then (if kind=0 then ts++[[a,x,b]] else ts.erase [a,x,b]) else ts
section
variable {P:Program} {w:World} {K:PySem.W.Frag} {mg:Str->Option Value} {base:Heap} {f fO fS fI C CE CR CD CN CT:Addr} {fd fdO fdS fdI:FuncData}
def spDueM (K:PySem.W.Frag):Sp:=fun vs H Q _=>∃ (ld p:Addr) (ts:List (List Int)) (n:Nat) (kind a x b:Int),vs=[.ref ld,.int n,.int kind,.ref p]/\(kind=0\/kind=1)/\Told K H ld ts/\SqT K H p [.int a,.int x,.int b]/\∀ l,H l=none->Q (.ref l) (upd H l (.lst ((duM n ts kind a x b).map V.bl)))
theorem scDueM:FnScope ["doors", "size", "kind", "door"] ["doors", "size", "kind", "door"] (defScope sDue):=⟨rfl,rfl,rfl,by decide +kernel,rfl,by decide +kernel,by decide +kernel⟩
theorem ok_duem (T:Txt mg) (D:DefAt K mg "_law_due" sDue ["doors", "size", "kind", "door"] f fd):FnOk P w K mg base CX0 1 f fd ["doors", "size", "kind", "door"] (spDueM K):=by
 refine D.fn.ok scDueM (fun vs H Q E h=>?_) (fun cdv A outer s H vs Q E hr h=>?_)
 ·obtain⟨ld,p,ts,n,kind,a,x,b,rfl,_⟩:=h
  rfl
 ·obtain⟨ld,p,ts,n,kind,a,x,b,rfl,hk,to,hp,q⟩:=h
  have hu:=hu64 hr
  refine⟨_,(pss_cons (ps_if (PW.pt (pw_or (pt_cmpR op_lt (pe_callB (call_min2 rfl) rfl T.min bMin (pa_cons (pe_ix ix_tup (pv 3) pe_int (fun _ _=>rfl)) (pa_cons (pe_ix ix_tup (pv 3) pe_int (fun _ _=>rfl)) pa_nil))) pe_int (nomark _)) (pw_or1 (pt_cmpR op_ge (pe_callB (call_max2 rfl) rfl T.max bMax (pa_cons (pe_ix ix_tup (pv 3) pe_int (fun _ _=>rfl)) (pa_cons (pe_ix ix_tup (pv 3) pe_int (fun _ _=>rfl)) pa_nil))) (pv 1) (nomark _))))) (pss_one (ps_ret (pe_lst (pa_cons pe_bl (pa_cons pe_bl (pa_cons pe_bl (pa_cons pe_bl pa_nil))))))) pss_nil) (pss_cons (ps_if (PW.pt (pw_and (pt_cmpR op_eq (pv 2) pe_int (nomark _)) (pw_and1 (pt_cmpR (op_tin hu) (pv 3) (pv 0) rfl)))) (pss_one (ps_ret (pe_lst (pa_cons pe_bl (pa_cons pe_bl (pa_cons pe_bl (pa_cons pe_bl pa_nil))))))) pss_nil) (pss_cons (ps_if (PW.pt (pw_and (pt_cmpR op_eq (pv 2) pe_int (nomark _)) (pw_and1 (pt_cmpR (op_tnotin hu) (pv 3) (pv 0) rfl)))) (pss_one (ps_ret (pe_lst (pa_cons pe_bl (pa_cons pe_bl (pa_cons pe_bl (pa_cons pe_bl pa_nil))))))) pss_nil) (pss_one (ps_ret (pe_lst pa_nil)))))),?_⟩
  obtain⟨xs,x1,x2⟩:=id to
  have pt:SqT K H p (([a,x,b]:List Int).map V.int):=hp
  have out:¬ ((0<=a/\a<n)/\(0<=b/\b<n))->∀ l,H l=none->Q (.ref l) (upd H l (.lst [.bl true,.bl false,.bl false,.bl true])):=fun hn l hl=>by
   have:=q l hl
   unfold duM at this
   rw[if_neg hn] at this
   exact this
  refine⟨_,rfl,p,_,0,_,rfl,rfl,hp,at0 _ _,_,rfl,p,_,2,_,rfl,rfl,hp,at2 _ _ _ _,_,_,rfl,_,_,rfl,rfl,_,rfl,ite2 (fun hc=>?_) (fun hc=>?_)⟩
  ·have h0:(if b<a then b else a)<0:=of_decide_eq_true hc
   exact⟨show 4<=sizeLine by decide,out (by split at h0 <;> omega)⟩
  have h0:¬ (if b<a then b else a)<0:=fun z=>hc (decide_eq_true z)
  refine⟨_,rfl,p,_,0,_,rfl,rfl,hp,at0 _ _,_,rfl,p,_,2,_,rfl,rfl,hp,at2 _ _ _ _,_,_,rfl,_,rfl,_,_,rfl,rfl,_,rfl,ite2 (fun hc=>?_) (fun hc=>?_)⟩
  ·have h1:=of_decide_eq_true hc
   exact⟨show 4<=sizeLine by decide,out (by split at h1 <;> omega)⟩
  have h1:¬ ((n:Nat):Int)<=(if b>a then b else a):=fun z=>hc (decide_eq_true z)
  have inr:(0<=a/\a<n)/\(0<=b/\b<n):=by
   split at h0 <;> split at h1 <;> omega
  unfold duM at q
  rw[if_pos inr] at q
  rcases hk with rfl | rfl
  ·rw[if_pos rfl] at q
   refine⟨_,rfl,rfl,_,rfl,iteB (by decide +kernel) ?_⟩
   refine⟨_,rfl,_,rfl,p,ld,[a,x,b],ts,xs,rfl,pt,rfl,SqL.of x1,x2,_,rfl,ite2 (fun hc=>?_) (fun hc=>?_)⟩
   ·rw[if_pos (by simpa using hc)] at q
    exact⟨show 4<=sizeLine by decide,q⟩
   ·rw[if_neg (by simpa using hc)] at q
    refine⟨_,rfl,rfl,_,rfl,iteN (by decide +kernel) ?_⟩
    exact⟨show 0<=sizeLine by decide,q⟩
  ·rw[if_neg (by decide)] at q
   refine⟨_,rfl,rfl,_,rfl,iteN (by decide +kernel) ?_⟩
   refine⟨_,rfl,rfl,_,rfl,iteB (by decide +kernel) ?_⟩
   refine⟨_,rfl,_,rfl,p,ld,[a,x,b],ts,xs,rfl,pt,rfl,SqL.of x1,x2,_,rfl,ite2 (fun hc=>?_) (fun hc=>?_)⟩
   ·rw[if_neg (by simpa using hc)] at q
    exact⟨show 4<=sizeLine by decide,q⟩
   ·rw[if_pos (by simpa using hc)] at q
    exact⟨show 0<=sizeLine by decide,q⟩
def spDid (K:PySem.W.Frag) (C:Addr):Sp:=fun vs H Q _=>∃ (h dx c d p:Addr) (cols:List Int) (ts:List (List Int)) (kind a x b:Int),vs=[.ref h,.int kind,.ref p]/\(kind=0\/kind=1)/\SqT K H p [.int a,.int x,.int b]/\HallAt C H h dx c d cols ts/\ts.length<400/\Tell a/\Tell x/\Tell b /\
 ∀ (l:Addr) (ts':List (List Int)) (H':Hp),SameX d H H'->H l=none->H' l=some (.lst ((duM cols.length ts kind a x b).map V.bl))->HallAt C H' h dx c d cols ts'->ts'=nxT cols.length ts kind a x b->Q (.ref l) H'
theorem scDid:FnScope ["hall", "kind", "door", "marks", "e"] ["hall", "kind", "door"] (defScope sDid):=⟨rfl,rfl,rfl,by decide +kernel,rfl,by decide +kernel,by decide +kernel⟩
theorem ok_did (T:Txt mg) (XS:ExL K mg CE CR CN CD CT) (HC:HallC K mg C) (DO:MetAt K C "open_door" "Hall.open_door" sOpen ["self", "a", "name", "b"] fO fdO) (GO:FnOk P w K mg base (CXE P w) 2 fO fdO ["self", "a", "name", "b"] (spOpen C CR CD CT))
  (DS:MetAt K C "shut_door" "Hall.shut_door" sShut ["self", "a", "name", "b"] fS fdS) (GS:FnOk P w K mg base (CXE P w) 2 fS fdS ["self", "a", "name", "b"] (spShut C CR CN)) (D:DefAt K mg "_law_did" sDid ["hall", "kind", "door"] f fd):FnOk P w K mg base CX0 3 f fd ["hall", "kind", "door"] (spDid K C):=by
 refine L3.FnOk.to0 (L3.Fun.okE (sp:=spDid K C) D.fn scDid (fun vs H Q E h=>?_) (fun cdv A outer s H vs Q E hr h=>?_)) (spDid K C) fun _ _ _ _ h=>h
 ·obtain⟨h,dx,c,d,p,cols,ts,kind,a,x,b,rfl,_⟩:=h
  rfl
 ·obtain⟨h,dx,c,d,p,cols,ts,kind,a,x,b,rfl,hk,hp,hh,n2,ta,tx,tb,q⟩:=h
  refine⟨_,pss_cons (ps_set (i:=3) scDid.nd rfl (Or.inl rfl) (pe_lst pa_nil))
   (pss_cons (ps_try fun pins De=>pss_one (ps_if (pt_cmpR op_eq (pv 1) pe_int (nomark _))
    (pss_one (ps_expr (pe_meth (pv 0) HC.cls DO.mt GO hr DO.bd .nil (pass_try (i:=4) ⟨rfl,rfl,rfl⟩ scDid.nd rfl rfl rfl XS.e.mg XS.e.xc fun y=>pss_one (ps_set (i:=3) scDid.nd rfl (Or.inl rfl)
      (pe_lst (pa_cons (pe_callB (call_isinstXK (K:=K) (v:=.ref CR) (c:=.ref CR) rfl (fun u h=>h)) rfl T.isi bIsi (pa_cons (pv 4) (pa_cons (pe_glob (v:=.ref CR) rfl XS.r.mg rfl) pa_nil))) (pa_cons (pe_callB (call_isinstXK (K:=K) (v:=.ref CD) (c:=.ref CD) rfl (fun u h=>h)) rfl T.isi bIsi (pa_cons (pv 4) (pa_cons (pe_glob (v:=.ref CD) rfl XS.d.mg rfl) pa_nil))) (pa_cons (pe_callB (call_isinstXK (K:=K) (v:=.ref CN) (c:=.ref CN) rfl (fun u h=>h)) rfl T.isi bIsi (pa_cons (pv 4) (pa_cons (pe_glob (v:=.ref CN) rfl XS.n.mg rfl) pa_nil)))
       (pa_cons (pe_callB (call_isinstXK (K:=K) (v:=.ty "ValueError") (c:=.type "ValueError") rfl (fun u h=>h)) rfl T.isi bIsi (pa_cons (pv 4) (pa_cons (pe_bltn (v:=.ty "ValueError") rfl XS.ve bVE rfl) pa_nil))) pa_nil))))))) (pa_cons (pe_ix (ix_tupK (K:=K)) (pv 2) pe_int (fun _ _=>rfl)) (pa_cons (pe_ix (ix_tupK (K:=K)) (pv 2) pe_int (fun _ _=>rfl)) (pa_cons (pe_ix (ix_tupK (K:=K)) (pv 2) pe_int (fun _ _=>rfl)) pa_nil))))))
    (pss_one (ps_expr (pe_meth (pv 0) HC.cls DS.mt GS hr DS.bd .nil (pass_try (i:=4) ⟨rfl,rfl,rfl⟩ scDid.nd rfl rfl rfl XS.e.mg XS.e.xc fun y=>pss_one (ps_set (i:=3) scDid.nd rfl (Or.inl rfl)
      (pe_lst (pa_cons (pe_callB (call_isinstXK (K:=K) (v:=.ref CR) (c:=.ref CR) rfl (fun u h=>h)) rfl T.isi bIsi (pa_cons (pv 4) (pa_cons (pe_glob (v:=.ref CR) rfl XS.r.mg rfl) pa_nil))) (pa_cons (pe_callB (call_isinstXK (K:=K) (v:=.ref CD) (c:=.ref CD) rfl (fun u h=>h)) rfl T.isi bIsi (pa_cons (pv 4) (pa_cons (pe_glob (v:=.ref CD) rfl XS.d.mg rfl) pa_nil))) (pa_cons (pe_callB (call_isinstXK (K:=K) (v:=.ref CN) (c:=.ref CN) rfl (fun u h=>h)) rfl T.isi bIsi (pa_cons (pv 4) (pa_cons (pe_glob (v:=.ref CN) rfl XS.n.mg rfl) pa_nil)))
       (pa_cons (pe_callB (call_isinstXK (K:=K) (v:=.ty "ValueError") (c:=.type "ValueError") rfl (fun u h=>h)) rfl T.isi bIsi (pa_cons (pv 4) (pa_cons (pe_bltn (v:=.ty "ValueError") rfl XS.ve bVE rfl) pa_nil))) pa_nil))))))) (pa_cons (pe_ix (ix_tupK (K:=K)) (pv 2) pe_int (fun _ _=>rfl)) (pa_cons (pe_ix (ix_tupK (K:=K)) (pv 2) pe_int (fun _ _=>rfl)) (pa_cons (pe_ix (ix_tupK (K:=K)) (pv 2) pe_int (fun _ _=>rfl)) pa_nil))))))))
   (pss_one (ps_ret (pv 3)))),?_⟩
  refine⟨show 0<=sizeLine by decide,fun l0 hl0=>?_⟩
  have s0:=same_new hl0 (o:=.lst [])
  have hp0:=Same.seqT s0 hp
  have hh0:=hh.same s0
  have ld0:l0≠d:=Ne.symm (ne_of_none hh.dt hl0)
  have fin:∀ (CX z l:Addr) (H1:Hp) (bs:List Bool),Same (upd H l0 (.lst [])) H1->H1 z=none->upd H1 z (exH z CX) l=none->duM cols.length ts kind a x b=bs->bs≠[]->Q (.ref l) (upd (upd H1 z (exH z CX)) l (.lst (bs.map V.bl))):=fun CX z l H1 bs s1 hz hl e ne=>by
   have s2:=same_new hz (o:=exH z CX)
   have s3:=same_new hl (o:=.lst (bs.map V.bl))
   have S:=s0.trans (s1.trans (s2.trans s3))
   refine q l ts _ (fun c o _ e=>S c o e) (s0.free (s1.free (s2.free hl))) (by rw[e]; exact upd_same) (hh.same S) ?_
   unfold nxT
   rw[e,if_neg ne]
  rcases hk with rfl | rfl
  ·refine⟨_,rfl,rfl,_,rfl,iteB (by decide +kernel) ?_⟩
   refine⟨_,rfl,h,dx,_,rfl,hh0.ob,rfl,_,rfl,p,_,0,_,rfl,rfl,hp0,at0 _ _,_,rfl,p,_,1,_,rfl,rfl,hp0,at1 _ _ _,_,rfl,p,_,2,_,rfl,rfl,hp0,at2 _ _ _ _,h,dx,c,d,cols,ts,a,x,b,rfl,hh0,by omega,ta,tx,tb,fun hn=>?_,fun hi hm H1 s1=>?_,fun hi hm z=>absurd z (by omega),fun hi hm _ H1 s1 hh1=>?_⟩
   ·have e:duM cols.length ts 0 a x b=[true,false,false,true]:=by unfold duM; rw[if_neg hn]
    refine⟨CR,rfl,XS.r.xc,XS.r.xa,XS.ure,fun σ z hσ hz=>?_⟩
    obtain⟨v0,v1,v2,v3,v4,rfl⟩ : ∃ v0 v1 v2 v3 v4,σ=[v0,v1,v2,v3,v4]:=by
     match σ,hσ with
     | [v0,v1,v2,v3,v4],_=>exact⟨_,_,_,_,_,rfl⟩
    refine⟨_,rfl,z,CR,_,rfl,upd_same,XS.r.xc,XS.r.xa,XS.rr,_,rfl,z,CR,_,rfl,upd_same,XS.r.xc,XS.r.xa,XS.rd,_,rfl,z,CR,_,rfl,upd_same,XS.r.xc,XS.r.xa,XS.rn,_,rfl,z,CR,_,rfl,upd_same,XS.r.xc,XS.r.xa,XS.rv,show 4<=sizeLine by decide,fun l hl=>?_⟩
    exact⟨_,rfl,fin CR z l _ _ (Same.refl _) hz hl e (fun z=>by cases z)⟩
   ·have e:duM cols.length ts 0 a x b=[false,true,false,true]:=by unfold duM; rw[if_pos hi,if_pos rfl,if_pos hm]
    refine⟨CD,rfl,XS.d.xc,XS.d.xa,XS.ude,fun σ z hσ hz=>?_⟩
    obtain⟨v0,v1,v2,v3,v4,rfl⟩ : ∃ v0 v1 v2 v3 v4,σ=[v0,v1,v2,v3,v4]:=by
     match σ,hσ with
     | [v0,v1,v2,v3,v4],_=>exact⟨_,_,_,_,_,rfl⟩
    refine⟨_,rfl,z,CD,_,rfl,upd_same,XS.d.xc,XS.d.xa,XS.dr,_,rfl,z,CD,_,rfl,upd_same,XS.d.xc,XS.d.xa,XS.dd,_,rfl,z,CD,_,rfl,upd_same,XS.d.xc,XS.d.xa,XS.dn,_,rfl,z,CD,_,rfl,upd_same,XS.d.xc,XS.d.xa,XS.dv,show 4<=sizeLine by decide,fun l hl=>?_⟩
    exact⟨_,rfl,fin CD z l _ _ s1 hz hl e (fun z=>by cases z)⟩
   ·have e:duM cols.length ts 0 a x b=[]:=by unfold duM; rw[if_pos hi,if_pos rfl,if_neg hm]
    refine⟨_,rfl,q l0 _ H1 (fun b o hb e=>s1 b o hb (s0 _ _ e)) hl0 (by rw[e]; exact s1 _ _ ld0 upd_same) hh1 ?_⟩
    unfold nxT
    rw[if_pos e,if_pos rfl]
  ·refine⟨_,rfl,rfl,_,rfl,iteN (by decide +kernel) ?_⟩
   refine⟨_,rfl,h,dx,_,rfl,hh0.ob,rfl,_,rfl,p,_,0,_,rfl,rfl,hp0,at0 _ _,_,rfl,p,_,1,_,rfl,rfl,hp0,at1 _ _ _,_,rfl,p,_,2,_,rfl,rfl,hp0,at2 _ _ _ _,h,dx,c,d,cols,ts,a,x,b,rfl,hh0,ta,tx,tb,fun hn=>?_,fun hi hm H1 s1=>?_,fun hi hm H1 s1 hh1=>?_⟩
   ·have e:duM cols.length ts 1 a x b=[true,false,false,true]:=by unfold duM; rw[if_neg hn]
    refine⟨CR,rfl,XS.r.xc,XS.r.xa,XS.ure,fun σ z hσ hz=>?_⟩
    obtain⟨v0,v1,v2,v3,v4,rfl⟩ : ∃ v0 v1 v2 v3 v4,σ=[v0,v1,v2,v3,v4]:=by
     match σ,hσ with
     | [v0,v1,v2,v3,v4],_=>exact⟨_,_,_,_,_,rfl⟩
    refine⟨_,rfl,z,CR,_,rfl,upd_same,XS.r.xc,XS.r.xa,XS.rr,_,rfl,z,CR,_,rfl,upd_same,XS.r.xc,XS.r.xa,XS.rd,_,rfl,z,CR,_,rfl,upd_same,XS.r.xc,XS.r.xa,XS.rn,_,rfl,z,CR,_,rfl,upd_same,XS.r.xc,XS.r.xa,XS.rv,show 4<=sizeLine by decide,fun l hl=>?_⟩
    exact⟨_,rfl,fin CR z l _ _ (Same.refl _) hz hl e (fun z=>by cases z)⟩
   ·have e:duM cols.length ts 1 a x b=[false,false,true,true]:=by unfold duM; rw[if_pos hi,if_neg (by decide),if_neg hm]
    refine⟨CN,rfl,XS.n.xc,XS.n.xa,XS.une,fun σ z hσ hz=>?_⟩
    obtain⟨v0,v1,v2,v3,v4,rfl⟩ : ∃ v0 v1 v2 v3 v4,σ=[v0,v1,v2,v3,v4]:=by
     match σ,hσ with
     | [v0,v1,v2,v3,v4],_=>exact⟨_,_,_,_,_,rfl⟩
    refine⟨_,rfl,z,CN,_,rfl,upd_same,XS.n.xc,XS.n.xa,XS.nr,_,rfl,z,CN,_,rfl,upd_same,XS.n.xc,XS.n.xa,XS.nd,_,rfl,z,CN,_,rfl,upd_same,XS.n.xc,XS.n.xa,XS.nn,_,rfl,z,CN,_,rfl,upd_same,XS.n.xc,XS.n.xa,XS.nv,show 4<=sizeLine by decide,fun l hl=>?_⟩
    exact⟨_,rfl,fin CN z l _ _ s1 hz hl e (fun z=>by cases z)⟩
   ·have e:duM cols.length ts 1 a x b=[]:=by unfold duM; rw[if_pos hi,if_neg (by decide),if_pos hm]
    refine⟨_,rfl,q l0 _ H1 (fun b o hb e=>s1 b o hb (s0 _ _ e)) hl0 (by rw[e]; exact s1 _ _ ld0 upd_same) hh1 ?_⟩
    unfold nxT
    rw[if_pos e,if_neg (by decide)]
def spTooMany (K:PySem.W.Frag):Sp:=fun vs H Q _=>∃ n:Nat,vs=[.int n]/\¬ (1<=n/\n<=60)/\n<=900/\∀ H',Same H H'->Q (.bl true) H'
theorem scTooMany:FnScope ["count", "refused", "e"] ["count"] (defScope sTooMany):=⟨rfl,rfl,rfl,by decide +kernel,rfl,by decide +kernel,by decide +kernel⟩
theorem ok_toomany (T:Txt mg) (XS:ExL K mg CE CR CN CD CT) (HC:HallC K mg C) (M:Mk K C fI) (bI:Binds K fdI ["self", "colours"] []) (GI:FnOk P w K mg base (CXE P w) 1 fI fdI ["self", "colours"] (spInit K C CT)) (D:DefAt K mg "_law_too_many" sTooMany ["count"] f fd):FnOk P w K mg base CX0 3 f fd ["count"] (spTooMany K):=by
 refine L3.FnOk.to0 (L3.Fun.okE (sp:=spTooMany K) D.fn scTooMany (fun vs H Q E h=>?_) (fun cdv A outer s H vs Q E hr h=>?_)) (spTooMany K) fun _ _ _ _ h=>h
 ·obtain⟨n,rfl,_⟩:=h
  rfl
 ·obtain⟨n,rfl,hn,n9,q⟩:=h
  refine⟨_,pss_cons (ps_set (i:=1) scTooMany.nd rfl (Or.inl rfl) pe_bl)
   (pss_cons (ps_try fun pins De=>pss_one (ps_expr (pe_make M GI hr rfl HC.mg bI .nil
     (pass_try (i:=2) ⟨rfl,rfl,rfl⟩ scTooMany.nd rfl rfl rfl XS.t.mg XS.t.xc fun y=>pss_one (ps_set (i:=1) scTooMany.nd rfl (Or.inl rfl)
      (pe_and (pe_callB (call_isinstXK (K:=K) (v:=.ref CE) (c:=.ref CE) rfl (fun u h=>h)) rfl T.isi bIsi (pa_cons (pv 2) (pa_cons (pe_glob (v:=.ref CE) rfl XS.e.mg rfl) pa_nil)))
       (pe_one (pe_callB (call_isinstXK (K:=K) (v:=.ty "ValueError") (c:=.type "ValueError") rfl (fun u h=>h)) rfl T.isi bIsi (pa_cons (pv 2) (pa_cons (pe_bltn (v:=.ty "ValueError") rfl XS.ve bVE rfl) pa_nil)))))))
     (pa_cons (pe_comp (o:=defScope sTooMany) (N:=["count", "refused", "e"]) (N':=["k"]) (src:=[none]) ⟨by rfl,by decide +kernel,by decide +kernel,by decide +kernel,by rfl,by decide +kernel⟩ (pi_range1 rfl T.range (pa_cons (pv 0) pa_nil)) (fun C s₀ H₀ ex=>pg_name (i:=0) (show (["k"]:List Str).Nodup by decide +kernel) rfl (Or.inl rfl)) (fun C s₀ H₀ ex=>pifs_nil) (fun C s₀ H₀ ex=>pe_int)) pa_nil))))
   (pss_one (ps_ret (pv 1)))),?_⟩
  refine⟨_,rfl,(n:Int),rfl,by omega,by omega,turns_range (lo:=0) (n:=n) (fun i σ ys H'=>H'=H/\(∃ u,σ=[u])/\ys=(List.replicate i (0:Int)).map V.int) ⟨rfl,⟨none,rfl⟩,rfl⟩ ?_ (Nat.le_of_lt (small1000 (by omega))) ?_ ?_⟩
  ·rintro i σ ys H' hi ⟨_,_,rfl⟩
   rw[List.length_map,List.length_replicate]; omega
  ·rintro i σ ys H' hi ⟨rfl,⟨u,rfl⟩,rfl⟩
   refine gyes ?_
   refine⟨rfl,⟨_,rfl⟩,?_⟩
   rw[List.replicate_succ',List.map_append]; rfl
  rintro σ ys H' ⟨rfl,_,rfl⟩
  intro l1 hl1
  have s1:=same_new hl1 (o:=.lst ((List.replicate n (0:Int)).map V.int))
  intro h dx hh hdx hne
  have hpx:l1≠h:=ne_of_none upd_same hh
  have hpd:l1≠dx:=ne_of_none upd_same hdx
  have sB:Same H' (upd (upd (upd H' l1 (.lst ((List.replicate n (0:Int)).map V.int))) dx (.own h)) h (.ins C dx [])):=fun b o e=>by
   rw[upd_ne (ne_of_none (s1 _ _ e) hh),upd_ne (ne_of_none (s1 _ _ e) hdx)]
   exact s1 _ _ e
  refine⟨h,dx,l1,List.replicate n 0,rfl,upd_same,SqL.of (by rw[upd_ne hpx,upd_ne hpd,upd_same]),fun z=>absurd (by rw[List.length_replicate] at z; exact z) hn,fun _=>?_⟩
  refine⟨CT,rfl,XS.t.xc,XS.t.xa,XS.utt,fun σ x hσ hx=>?_⟩
  obtain⟨v0,v1,v2,rfl⟩ : ∃ v0 v1 v2,σ=[v0,v1,v2]:=by
   match σ,hσ with
   | [v0,v1,v2],_=>exact⟨_,_,_,rfl⟩
  refine⟨_,rfl,x,CT,_,rfl,upd_same,XS.t.xc,XS.t.xa,XS.te,_,rfl,iteB rfl ?_⟩
  refine⟨_,rfl,x,CT,_,rfl,upd_same,XS.t.xc,XS.t.xa,XS.tv,?_⟩
  exact⟨_,rfl,q _ (sB.trans (same_new hx))⟩
end
end K01
namespace K01
open PySem L2 L3
section
variable {P:Program} {w:World} {K:PySem.W.Frag} {mg:Str->Option Value} {base:Heap} {f fK fD C CE CR CB:Addr} {fd fdK fdD:FuncData}
def spPaint (C CR:Addr):Sp:=fun vs H Q E=>∃ h dx c d cols ts a v,vs=[.ref h,.int a,.int v]/\HallAt C H h dx c d cols ts/\Tell a/\(0<=a/\a<cols.length->Q .non (upd H c (.lst ((cols.set a.toNat v).map V.int))))/\(¬ (0<=a/\a<cols.length)->E (.ref CR) none H)
theorem scPaint:FnScope ["self", "a", "colour"] ["self", "a", "colour"] (defScope sPaint):=⟨rfl,rfl,rfl,by decide +kernel,rfl,by decide +kernel,by decide +kernel⟩
theorem ixN_ok {n:Nat} {i:Int} (h0:0<=i) (h1:i<n):ixN n i=some i.toNat:=by
 unfold ixN; rw[if_pos h0,if_pos h1]
theorem map_set_int (cs:List Int) (j:Nat) (v:Int):(cs.map V.int).set j (.int v)=(cs.set j v).map V.int:=by
 rw[List.map_set]
theorem ok_paint (HC:HallC K mg C) (DK:MetAt K C "check_room" "Hall.check_room" sCheck ["self", "a"] fK fdK) (GK:FnOk P w K mg base (CXE P w) 1 fK fdK ["self", "a"] (spCheck C CR)) (D:MetAt K C "paint" "Hall.paint" sPaint ["self", "a", "colour"] f fd) :
  FnOk P w K mg base (CXE P w) 2 f fd ["self", "a", "colour"] (spPaint C CR):=by
 refine L3.Fun.okE D.fn scPaint (fun vs H Q E h=>?_) (fun cdv A outer s H vs Q E hr h=>?_)
 ·obtain⟨h,dx,c,d,cols,ts,a,v,rfl,_⟩:=h
  rfl
 ·obtain⟨h,dx,c,d,cols,ts,a,v,rfl,hh,ht,q,qx⟩:=h
  refine⟨_,pss_cons (ps_expr (pe_meth (pv 0) HC.cls DK.mt GK hr DK.bd .nil (pass_on (E:=E) fun _ _ _ z=>z) (pa_cons (pv 1) pa_nil)))
   (pss_one (ps_asg (pv 2) (pg_sub (pe_fld (pv 0) rfl) (pv 1) set_list))),?_⟩
  refine⟨_,rfl,h,dx,_,rfl,hh.ob,rfl,_,rfl,h,dx,c,d,cols,ts,a,rfl,hh,ht,fun hb=>?_,qx⟩
  refine⟨_,rfl,_,rfl,h,C,dx,_,_,rfl,hh.ob,HC.cls,HC.nc,rfl,_,rfl,c,_,a,_,rfl,rfl,hh.cl,ixN_ok hb.1 (by rw[List.length_map]; exact hb.2),?_⟩
  rw[map_set_int]
  exact q hb
end
end K01
namespace K01
open PySem L2 L3
section
variable {P:Program} {w:World} {K:PySem.W.Frag} {mg:Str->Option Value} {base:Heap} {f fC fN fI fP fU fV fT fR fM fW fZ C CE CR CN CD CT:Addr} {fd fdC fdN fdI fdP fdU fdV fdT fdR fdM fdW fdZ:FuncData}
def SameF (fs:List Addr) (H H':Hp):Prop:=∀ b o,b∉fs->H b=some o->H' b=some o
theorem SameF.of {fs:List Addr} {H H':Hp} (s:Same H H'):SameF fs H H':=fun b o _ e=>s b o e
theorem SameF.trans {fs:List Addr} {H H1 H2:Hp} (s:SameF fs H H1) (s':SameF fs H1 H2):SameF fs H H2:=fun b o n e=>s' b o n (s b o n e)
theorem SameF.ofX {fs:List Addr} {H H':Hp} {d:Addr} (hd:d∈fs) (s:SameX d H H'):SameF fs H H':=fun b o n e=>s b o (fun z=>n (by rw[z]; exact hd)) e
theorem SameF.upd {fs:List Addr} {H:Hp} {d:Addr} {o:HO} (hd:d∈fs):SameF fs H (upd H d o):=fun b u n e=>by rw[upd_ne (fun z=>n (by rw[z]; exact hd))]; exact e
theorem told_put {H:Hp} {l m:Addr} {ts:List (List Int)} {ys:List V} {o:HO} (h:Told K H l ts) (hm:H m=some (.lst ys)) (ne:l≠m):Told K (upd H m o) l ts:=by
 obtain⟨xs,h1,h2⟩:=h
 obtain⟨ps,g1,g2,g3⟩:=tups_denL h2
 refine⟨xs,by rw[upd_ne ne]; exact h1,?_⟩
 rw[g2,← g1]
 refine denL_tups fun q hq=>?_
 rcases g3 q hq with (z | ⟨u,z⟩) | z
 ·exact .inl (.inl (by rw[upd_ne (ne_of z hm (fun e=>by cases e))]; exact z))
 ·exact .inl (.inr ⟨u,by rw[upd_ne (ne_of z hm (fun e=>by cases e))]; exact z⟩)
 ·exact .inr z
theorem sqT_put {H:Hp} {a l:Addr} {xs ys:List V} {o:HO} (h:SqT K H a xs) (hl:H l=some (.lst ys)):SqT K (upd H l o) a xs:=by
 rcases h with (z | ⟨q,z⟩) | z
 ·exact .inl (.inl (by rw[upd_ne (ne_of z hl (fun e=>by cases e))]; exact z))
 ·exact .inl (.inr ⟨q,by rw[upd_ne (ne_of z hl (fun e=>by cases e))]; exact z⟩)
 ·exact .inr z
def forB (s:Stmt):List Stmt:=match s with
 | .For _ _ b _ _=>b
 | _=>[]
theorem names_pick (c k:Int) (h0:0<=k) (h1:k<3):∃ x:Int,atI ((namesOf c).map V.int) k=some (.int x)/\0<=x/\x<1000:=by
 obtain⟨l1,_⟩:=namesOf_len c
 have hl:k.toNat<(namesOf c).length:=by omega
 refine⟨(namesOf c).getD k.toNat 0,?_,namesOf_rng c _ (getD_mem hl)⟩
 rw[atI_int h0 (by rw[List.length_map]; omega) (.int 0),getD_map_int]
theorem marks_eqv (bs cs:List Bool):PyData.eqv (marksD bs) (marksD cs)=decide (bs=cs):=by
 show PyData.eqv (.list _) (.list _)=_
 rw[PyData.eqv]
 induction bs generalizing cs with
 | nil=>cases cs <;> simp[PyData.eqvAll]
 | cons a r ih=>
  cases cs with
  | nil=>simp[PyData.eqvAll]
  | cons b s=>
   rw[List.map_cons,List.map_cons,PyData.eqvAll,ih]
   cases a <;> cases b <;> simp[PyData.eqv]
theorem marks_can (bs:List Bool):(marksD bs).canLay0=true:=by
 show PyData.canLay0 (.list _)=true
 rw[PyData.canLay0]
 induction bs with
 | nil=>simp[PyData.canLayAll0]
 | cons a r ih=>simp[PyData.canLayAll0,PyData.canLay0,ih]
theorem marks_dep (bs:List Bool):(marksD bs).depth<=60:=by
 show PyData.depth (.list _)<=60
 rw[PyData.depth]
 have:PyData.depthAll (bs.map PyData.bool)<=1:=by
  induction bs with
  | nil=>simp[PyData.depthAll]
  | cons a r ih=>simp[PyData.depthAll,PyData.depth]; omega
 omega
structure St1 (K:PySem.W.Frag) (C:Addr) (H0 H:Hp) (h dx c d ld lc:Addr) (n:Nat) (cs:List Int) (ts:List (List Int)):Prop where
 sf:SameF [c,d,lc,ld] H0 H
 hh:HallAt C H h dx c d cs ts
 ec:H lc=some (.lst (cs.map V.int))
 to:Told K H ld ts
 len:cs.length=n
 tl:ts.length<=391
 x1:lc≠c
 x2:ld≠c
 x3:lc≠ld
theorem St1.same {H0 H H':Hp} {h dx c d ld lc:Addr} {n:Nat} {cs:List Int} {ts:List (List Int)} (S:St1 K C H0 H h dx c d ld lc n cs ts) (s:Same H H'):St1 K C H0 H' h dx c d ld lc n cs ts:=
 ⟨S.sf.trans (.of s),S.hh.same s,s _ _ S.ec,Told.same s S.to,S.len,S.tl,S.x1,S.x2,S.x3⟩
def spLaw (K:PySem.W.Frag):Sp:=fun vs H Q _=>∃ a ns,vs=[.ref a]/\SqL K H a (List.map V.int ns)/\ns.length<=63/\∀ H',Q (.bl true) H'
abbrev lawN:List Str:=["script", "first", "size", "names", "colours", "handed", "hall", "doors", "cell", "door", "kind", "due", "a"]
theorem scLaw:FnScope ["script", "first", "size", "names", "colours", "handed", "hall", "doors", "cell", "door", "kind", "due", "a"] ["script"] (defScope sLaw):=⟨rfl,rfl,rfl,by decide +kernel,rfl,by decide +kernel,by decide +kernel⟩
theorem ok_law (T:Txt mg) (HC:HallC K mg C) (M:Mk K C fI) (bI:Binds K fdI ["self", "colours"] []) (GI:FnOk P w K mg base (CXE P w) 1 fI fdI ["self", "colours"] (spInit K C CT)) (DC:DefAt K mg "_law_cell_at" sCell ["script", "k"] fC fdC) (GC:FnOk P w K mg base CX0 1 fC fdC ["script", "k"] (spCell K)) (DN:DefAt K mg "_law_names" sNames ["cell"] fN fdN) (GN:FnOk P w K mg base CX0 1 fN fdN ["cell"] spNames)
  (DP:MetAt K C "paint" "Hall.paint" sPaint ["self", "a", "colour"] fP fdP) (GP:FnOk P w K mg base (CXE P w) 2 fP fdP ["self", "a", "colour"] (spPaint C CR)) (DU:DefAt K mg "_law_due" sDue ["doors", "size", "kind", "door"] fU fdU) (GU:FnOk P w K mg base CX0 1 fU fdU ["doors", "size", "kind", "door"] (spDueM K))
  (DV:DefAt K mg "_law_did" sDid ["hall", "kind", "door"] fV fdV) (GV:FnOk P w K mg base CX0 3 fV fdV ["hall", "kind", "door"] (spDid K C)) (DT:DefAt K mg "_law_doors_told" sDoorsTold ["hall", "doors"] fT fdT) (GT:FnOk P w K mg base CX0 3 fT fdT ["hall", "doors"] (spDoorsTold K C))
  (DR:DefAt K mg "_law_room_told" sRoomTold ["hall", "doors", "colours", "a", "name"] fR fdR) (GR:FnOk P w K mg base CX0 3 fR fdR ["hall", "doors", "colours", "a", "name"] (spRoomTold K C)) (DM:DefAt K mg "_law_too_many" sTooMany ["count"] fM fdM) (GM:FnOk P w K mg base CX0 3 fM fdM ["count"] (spTooMany K))
  (DW:DefAt K mg "_law_whole" sWhole ["found"] fW fdW) (GW:FnOk P w K mg base CX0 1 fW fdW ["found"] spWhole) (DZ:MetAt K C "size" "Hall.size" sSize ["self"] fZ fdZ) (GZ:FnOk P w K mg base CX0 1 fZ fdZ ["self"] (spSize C)) (F:Fun K "law" "law" sLaw f fd):FnOk P w K mg base CX0 4 f fd ["script"] (spLaw K):=by
 have GI0:=L3.FnOk.to0 GI (fun vs H Q _=>spInit K C CT vs H Q E0) fun _ _ _ _ h=>h
 have GP0:=L3.FnOk.to0 GP (fun vs H Q _=>spPaint C CR vs H Q E0) fun _ _ _ _ h=>h
 refine F.ok scLaw (fun vs H Q E h=>?_) (fun cdv A outer s H vs Q E hr h=>?_)
 ·obtain⟨a,ns,rfl,_⟩:=h
  rfl
 ·obtain⟨sc,ns,rfl,hS,hlen,q⟩:=h
  have hu:=hu64 hr
  have hr1:Room 1 _:=hr.mono (by decide)
  have hr2:Room 2 _:=hr.mono (by decide)
  have RT:∃ tt,PS (cxOf CX0 P w K mg base ["script", "first", "size", "names", "colours", "handed", "hall", "doors", "cell", "door", "kind", "due", "a"] "law" (defScope sLaw) f cdv A outer s H E).nox (at' (forB (at' (defBody sLaw) 9)) 4) tt /\
    ∀ (D:Ends) (H0 H1:Hp) (h dx c d ld lc p:Addr) (n:Nat) (cs:List Int) (ts:List (List Int)) (a x b:Int) (v1 v2 v3 v5 v8 v10 v11 v12:Option V),St1 K C H0 H1 h dx c d ld lc n cs ts->n<=60->SqT K H1 p [.int a,.int x,.int b]->Tell a->(∀ H',Same H1 H'->D.nx [some (.ref sc),v1,v2,v3,some (.ref lc),v5,some (.ref h),some (.ref ld),v8,some (.ref p),v10,v11,v12] H') ->
     tt D [some (.ref sc),v1,v2,v3,some (.ref lc),v5,some (.ref h),some (.ref ld),v8,some (.ref p),v10,v11,v12] H1:=by
   refine⟨_,(ps_if (PW.pt (pw_or (pt_not (pt_val (pe_call GT hr rfl DT.mg DT.fn.kp DT.bd .nil pass0 (pa_cons (pv 6) (pa_cons (pv 7) pa_nil))))) (pw_or1 (pt_not (pt_val (pe_call GR hr rfl DR.mg DR.fn.kp DR.bd .nil pass0 (pa_cons (pv 6) (pa_cons (pv 7) (pa_cons (pv 4) (pa_cons (pe_ix ix_tup (pv 9) pe_int (fun _ _=>rfl)) (pa_cons (pe_ix ix_tup (pv 9) pe_int (fun _ _=>rfl)) pa_nil))))))))))) (pss_one (ps_ret pe_bl)) pss_nil),?_⟩
   intro D H0 H1 h dx c d ld lc p n cs ts a x b v1 v2 v3 v5 v8 v10 v11 v12 S n1 hp ta nxt
   have tl:=S.tl
   have ln:=S.len
   refine⟨_,rfl,_,rfl,h,dx,c,d,ld,cs,ts,ts,rfl,S.hh,S.to,List.Perm.refl _,by omega,fun H2 s2=>⟨_,rfl,iteF ?_⟩⟩
   have p2:=Same.seqT s2 hp
   refine⟨_,rfl,_,rfl,_,rfl,_,rfl,p,_,0,_,rfl,rfl,p2,at0 _ _,_,rfl,p,_,1,_,rfl,rfl,p2,at1 _ _ _,h,dx,c,d,ld,lc,cs,ts,ts,a,x,rfl,S.hh.same s2,Told.same s2 S.to,List.Perm.refl _,SqL.of (s2 _ _ S.ec),ta,by omega,by omega,fun H3 s3=>⟨_,rfl,iteF ?_⟩⟩
   exact nxt _ (s2.trans s3)
  obtain⟨tt,htail,hqt⟩:=RT
  have RK:∃ tk,PS (cxOf CX0 P w K mg base ["script", "first", "size", "names", "colours", "handed", "hall", "doors", "cell", "door", "kind", "due", "a"] "law" (defScope sLaw) f cdv A outer s H E).nox (at' (forB (at' (defBody sLaw) 9)) 3) tk /\
    ∀ (D:Ends) (H0 H1:Hp) (h dx c d ld lc p:Addr) (n:Nat) (cs:List Int) (ts:List (List Int)) (a x b cell kd:Int) (v1 v3 v5 v11 v12:Option V),St1 K C H0 H1 h dx c d ld lc n cs ts->n<=60->SqT K H1 p [.int a,.int x,.int b]->H0 p=none -> -1<=a->a<=61 -> -1<=b->b<=61->0<=x->x<1000->0<=kd->kd<=3->(kd<2->ts.length<=390) ->
     (∀ (cs':List Int) (ts':List (List Int)) (H':Hp) (v11':Option V),St1 K C H0 H' h dx c d ld lc n cs' ts'->SqT K H' p [.int a,.int x,.int b]->D.nx [some (.ref sc),v1,some (.int n),v3,some (.ref lc),v5,some (.ref h),some (.ref ld),some (.int cell),some (.ref p),some (.int kd),v11',v12] H') ->
     tk D [some (.ref sc),v1,some (.int n),v3,some (.ref lc),v5,some (.ref h),some (.ref ld),some (.int cell),some (.ref p),some (.int kd),v11,v12] H1:=by
   refine⟨_,(ps_if (PW.pt (pw_and (pt_cmpR op_eq (pv 10) pe_int (nomark _)) (pw_and1 (pt_chain op_le op_lt pe_int (pe_ix ix_tup (pv 9) pe_int (fun _ _=>rfl)) (pv 2))))) (pss_cons (ps_expr (pe_meth (pv 6) HC.cls DP.mt GP0 hr2 DP.bd .nil pass0 (pa_cons (pe_ix ix_tup (pv 9) pe_int (fun _ _=>rfl)) (pa_cons (pe_op op_mod (pe_op op_fdiv (pv 8) pe_int) pe_int) pa_nil)))) (pss_one (ps_asg (pe_op op_mod (pe_op op_fdiv (pv 8) pe_int) pe_int) (pg_sub (pv 4) (pe_ix ix_tup (pv 9) pe_int (fun _ _=>rfl)) set_list)))) (pss_one (ps_if (pt_cmpR op_lt (pv 10) pe_int (nomark _)) (pss_cons (ps_set (i:=11) scLaw.nd rfl (Or.inl rfl) (pe_call GU hr1 rfl DU.mg DU.fn.kp DU.bd .nil pass0 (pa_cons (pv 7) (pa_cons (pv 2) (pa_cons (pe_op op_fdiv (pv 10) pe_int) (pa_cons (pv 9) pa_nil)))))) (pss_cons (ps_if (pt_cmpR (op_dne hu) (pe_call GV hr rfl DV.mg DV.fn.kp DV.bd .nil pass0 (pa_cons (pv 6) (pa_cons (pe_op op_fdiv (pv 10) pe_int) (pa_cons (pv 9) pa_nil)))) (pv 11) (nomark _)) (pss_one (ps_ret pe_bl)) pss_nil) (pss_cons (ps_if (PW.pt (pw_and (pt_cmpR (op_deq hu) (pv 11) (pe_lst pa_nil) (nomark _)) (pw_and1 (pt_cmpR op_lt (pv 10) pe_int (nomark _))))) (pss_one (ps_expr (pe_bm PySem.F.plainAttrs_list PySem.F.slot_list_append PySem.F.type_list_append mt_append (pv 7) (pa_cons (pv 9) pa_nil)))) pss_nil) (pss_one (ps_if (PW.pt (pw_and (pt_cmpR (op_deq hu) (pv 11) (pe_lst pa_nil) (nomark _)) (pw_and1 (pt_cmpR op_eq (pv 10) pe_int (nomark _))))) (pss_one (ps_expr (pe_bm PySem.F.plainAttrs_list PySem.F.slot_list_remove PySem.F.type_list_remove (mt_tremove hu) (pv 7) (pa_cons (pv 9) pa_nil)))) pss_nil))))) pss_nil))),?_⟩
   intro D H0 H1 h dx c d ld lc p n cs ts a x b cell kd v1 v3 v5 v11 v12 S n1 hp p0 a0 a1 b0 b1 x0 x9 k0 k3 kl nxt
   have tl:=S.tl
   have ln:=S.len
   have hh:=S.hh
   have ta:Tell a:=tell_of (by omega) (by omega)
   have tx:Tell x:=tell_of (by omega) (by omega)
   have tb:Tell b:=tell_of (by omega) (by omega)
   have cin:c∈[c,d,lc,ld]:=by simp
   have din:d∈[c,d,lc,ld]:=by simp
   have lcin:lc∈[c,d,lc,ld]:=by simp
   have ldin:ld∈[c,d,lc,ld]:=by simp
   have cd:c≠d:=hh.cd
   have lcd:lc≠d:=ne_of S.ec hh.dt (fun e=>by cases e)
   obtain⟨ys,y1,y2⟩:=id S.to
   have yl:ys.length=ts.length:=Told.len y2
   have ldd:ld≠d:=ne_of y1 hh.dt (fun e=>by cases e)
   have lt3:∀ e:kd=3,¬ decide (kd<3)=true:=fun e z=>by have:=of_decide_eq_true z; omega
   refine⟨_,rfl,rfl,_,rfl,ite2 (fun hc=>?_) (fun hc=>?_)⟩
   ·have k3':kd=3:=by
     have:V.int kd=V.int 3:=of_decide_eq_true hc
     injection this
    refine⟨_,rfl,p,_,0,_,rfl,rfl,hp,at0 _ _,_,_,rfl,rfl,_,rfl,ite2 (fun g0=>?_) (fun g0=>?_)⟩
    ·have ra0:0<=a:=of_decide_eq_true g0
     refine⟨_,rfl,_,_,rfl,rfl,_,rfl,ite2 (fun g1=>?_) (fun g1=>?_)⟩
     ·have ra1:a<n:=of_decide_eq_true g1
      refine⟨_,rfl,h,dx,_,rfl,hh.ob,rfl,_,rfl,p,_,0,_,rfl,rfl,hp,at0 _ _,_,rfl,_,_,rfl,rfl,⟨by decide,by decide⟩,_,_,rfl,rfl,(by show (0:Int)<1000; decide),h,dx,c,d,cs,ts,a,_,rfl,hh,ta,fun _=>?_,fun z=>absurd ⟨ra0,by omega⟩ z⟩
      have ec2:upd H1 c (.lst ((cs.set a.toNat (cell/4 % 1000)).map V.int)) lc=some (.lst (cs.map V.int)):=by rw[upd_ne S.x1]; exact S.ec
      have hp2:SqT K (upd H1 c (.lst ((cs.set a.toNat (cell/4 % 1000)).map V.int))) p [.int a,.int x,.int b]:=sqT_put hp hh.cl
      refine⟨_,rfl,_,_,rfl,rfl,⟨by decide,by decide⟩,_,_,rfl,rfl,(by show (0:Int)<1000; decide),_,rfl,_,rfl,p,_,0,_,rfl,rfl,hp2,at0 _ _,lc,_,_,_,rfl,rfl,ec2,ixN_ok ra0 (by rw[List.length_map]; omega),?_⟩
      have ln':(cs.set a.toNat (cell/4 % 1000)).length=cs.length:=List.length_set
      refine nxt (cs.set a.toNat (cell/4 % 1000)) ts _ _ ⟨(S.sf.trans (.upd cin)).trans (.upd lcin),⟨?_,?_,?_,hh.nd,hh.th⟩,?_,told_put (told_put S.to hh.cl S.x2) ec2 (Ne.symm S.x3),by rw[ln',ln],tl,S.x1,S.x2,S.x3⟩ (sqT_put hp2 ec2)
      ·rw[upd_ne (ne_of hh.ob S.ec (fun e=>by cases e)),upd_ne (ne_of hh.ob hh.cl (fun e=>by cases e))]; exact hh.ob
      ·rw[upd_ne (Ne.symm S.x1),upd_same]
      ·rw[upd_ne (Ne.symm lcd),upd_ne (Ne.symm cd)]; exact hh.dt
      ·rw[upd_same,map_set_int]
     ·refine⟨_,rfl,_,_,rfl,rfl,_,rfl,?_⟩
      exact iteN (by rw[k3']; rfl) (nxt cs ts _ _ S hp)
    ·refine⟨_,rfl,iteF ?_⟩
     refine⟨_,rfl,_,_,rfl,rfl,_,rfl,?_⟩
     exact iteN (by rw[k3']; rfl) (nxt cs ts _ _ S hp)
   have k2:kd<=2:=by
    have:kd≠3:=fun e=>hc (by rw[e]; exact decide_eq_true rfl)
    omega
   refine⟨_,rfl,_,_,rfl,rfl,_,rfl,iteB (decide_eq_true (by omega)) ?_⟩
   have hk2:kd/2=0\/kd/2=1:=by omega
   refine⟨_,rfl,_,rfl,_,rfl,_,_,rfl,rfl,⟨by decide,by decide⟩,_,rfl,ld,p,ts,n,kd/2,a,x,b,rfl,hk2,S.to,hp,fun lu hlu=>?_⟩
   have s1:=same_new hlu (o:=.lst ((duM n ts (kd/2) a x b).map V.bl))
   have S1:=S.same s1
   have hp1:=Same.seqT s1 hp
   refine⟨_,rfl,_,rfl,_,_,rfl,rfl,⟨by decide,by decide⟩,_,rfl,h,dx,c,d,p,cs,ts,kd/2,a,x,b,rfl,hk2,hp1,S1.hh,by omega,ta,tx,tb,fun lm ts' H3 sx lm0 em hh3 ets=>?_⟩
   rw[ln] at em ets
   have lud:lu≠d:=Ne.symm (ne_of_none hh.dt hlu)
   have eu3:H3 lu=some (.lst ((duM n ts (kd/2) a x b).map V.bl)):=sx _ _ lud upd_same
   have hp3:=SqT.sameX sx S1.hh.dt hp1
   have ec3:=sx _ _ lcd S1.ec
   obtain⟨z1,z2⟩:=ToldX.sameX ⟨s1 _ _ y1,DenL.mono s1 _ _ y2⟩ sx S1.hh.dt
   have sf3:SameF [c,d,lc,ld] H0 H3:=S1.sf.trans (.ofX din sx)
   refine⟨_,rfl,marksD (duM n ts (kd/2) a x b),marksD (duM n ts (kd/2) a x b),den_marks em,den_marks eu3,marks_can _,marks_can _,marks_dep _,_,rfl,?_⟩
   rw[marks_eqv,decide_eq_true rfl]
   refine iteF ?_
   generalize hdu:duM n ts (kd/2) a x b=du at eu3 em
   have cmp:∀ (H4:Hp) (le:Addr),H4 lu=some (.lst (du.map V.bl))->H4 le=some (.lst [])->Den K H4 (marksD du) (.ref lu)/\Den K H4 (marksD []) (.ref le):=fun H4 le e1 e2=>⟨den_marks e1,den_marks (bs:=[]) e2⟩
   refine⟨_,rfl,show 0<=sizeLine by decide,fun le hle=>?_⟩
   have s4:=same_new hle (o:=.lst [])
   obtain⟨g1,g2⟩:=cmp _ le (s4 _ _ eu3) upd_same
   refine⟨marksD du,marksD [],g1,g2,marks_can _,marks_can _,marks_dep _,_,rfl,?_⟩
   rw[if_neg (by decide),marks_eqv]
   by_cases e:du=[]
   ·rw[decide_eq_true e]
    refine iteT ?_
    have enx:nxT n ts (kd/2) a x b=(if kd/2=0 then ts++[[a,x,b]] else ts.erase [a,x,b]):=by
     unfold nxT
     rw[hdu,if_pos e]
    rw[enx] at ets
    by_cases kk:kd<2
    ·refine⟨_,rfl,_,_,rfl,rfl,_,rfl,iteB (decide_eq_true kk) ?_⟩
     have kz:kd/2=0:=by omega
     rw[if_pos kz] at ets
     subst ets
     have z1':=s4 _ _ z1
     refine⟨_,rfl,.inl ⟨rfl,_,SqL.of z1'⟩,_,rfl,ld,ys,_,rfl,rfl,z1',by rw[yl]; exact small1000 (by omega),?_⟩
     have T5:=Told.snoc z1' (DenL.mono s4 _ _ z2) (t:=[a,x,b]) (Same.seqT s4 hp3)
     have hh4:=hh3.same s4
     have hh5:HallAt C (upd (upd H3 le (.lst [])) ld (.lst (ys++[.ref p]))) h dx c d cs (ts++[[a,x,b]]):=⟨by rw[upd_ne (ne_of hh4.ob z1' (fun e=>by cases e))]; exact hh4.ob,by rw[upd_ne (Ne.symm S.x2)]; exact hh4.cl,by rw[upd_ne (Ne.symm ldd)]; exact hh4.dt,hh4.nd,hh4.th⟩
     have S5:St1 K C H0 (upd (upd H3 le (.lst [])) ld (.lst (ys++[.ref p]))) h dx c d ld lc n cs (ts++[[a,x,b]]):=⟨(sf3.trans (.of s4)).trans (.upd ldin),hh5,by rw[upd_ne S.x3]; exact s4 _ _ ec3,T5,ln,by rw[List.length_append]; simp; have:=kl kk; omega,S.x1,S.x2,S.x3⟩
     have hp5:=sqT_put (o:=.lst (ys++[.ref p])) (Same.seqT s4 hp3) z1'
     have luld:lu≠ld:=Ne.symm (ne_of_none y1 hlu)
     have eu5:upd (upd H3 le (.lst [])) ld (.lst (ys++[.ref p])) lu=some (.lst (du.map V.bl)):=by rw[upd_ne luld]; exact s4 _ _ eu3
     refine⟨_,rfl,show 0<=sizeLine by decide,fun lg hlg=>?_⟩
     have s6:=same_new hlg (o:=.lst [])
     obtain⟨g3,g4⟩:=cmp _ lg (s6 _ _ eu5) upd_same
     refine⟨marksD du,marksD [],g3,g4,marks_can _,marks_can _,marks_dep _,_,rfl,?_⟩
     rw[if_neg (by decide),marks_eqv,decide_eq_true e]
     refine iteT ?_
     refine⟨_,rfl,rfl,_,rfl,iteN (decide_eq_false (fun z=>by injection z with z; omega)) ?_⟩
     exact nxt cs _ _ _ (S5.same s6) (Same.seqT s6 hp5)
    ·refine⟨_,rfl,_,_,rfl,rfl,_,rfl,iteN (decide_eq_false kk) ?_⟩
     have kz:kd=2:=by omega
     have kz2:¬ kd/2=0:=by omega
     rw[if_neg kz2] at ets
     have hm:[a,x,b]∈ts:=by
      rw[e] at hdu
      unfold duM at hdu
      by_cases i1:(0<=a/\a<n)/\(0<=b/\b<n)
      ·rw[if_pos i1,if_neg kz2] at hdu
       by_cases i2:[a,x,b]∈ts
       ·exact i2
       ·rw[if_neg i2] at hdu; cases hdu
      ·rw[if_neg i1] at hdu; cases hdu
     obtain⟨j,hj⟩:=List.getElem?_of_mem hm
     have ee:ts.erase [a,x,b]=ts.eraseIdx j:=by rw[erase_at hh.nd hj,List.eraseIdx_eq_take_drop_succ]
     refine⟨_,rfl,show 0<=sizeLine by decide,fun lg hlg=>?_⟩
     have s6:=same_new hlg (o:=.lst [])
     obtain⟨g3,g4⟩:=cmp _ lg (s6 _ _ (s4 _ _ eu3)) upd_same
     refine⟨marksD du,marksD [],g3,g4,marks_can _,marks_can _,marks_dep _,_,rfl,?_⟩
     rw[if_neg (by decide),marks_eqv,decide_eq_true e]
     refine iteT ?_
     refine⟨_,rfl,rfl,_,rfl,iteB (by rw[kz]; exact decide_eq_true rfl) ?_⟩
     have s46:=s4.trans s6
     have z1':=s46 _ _ z1
     have z2':=DenL.mono s46 _ _ z2
     have hp6:=Same.seqT s46 hp3
     refine⟨_,rfl,.inl ⟨rfl,_,SqL.of z1'⟩,_,rfl,ld,p,[a,x,b],ts,ys,j,rfl,rfl,z1',z2',hp6,hj,fun m hm' e=>?_,?_⟩
     ·have ml:=(List.getElem?_eq_some_iff.mp e).1
      have:=(List.getElem?_inj ml hh.nd).mp (e.trans hj.symm)
      omega
     have hh4:=hh3.same s46
     rw[ets,ee] at hh4
     refine nxt cs (ts.eraseIdx j) _ _ ⟨(sf3.trans (.of s46)).trans (.upd ldin),⟨by rw[upd_ne (ne_of hh4.ob z1' (fun e=>by cases e))]; exact hh4.ob,by rw[upd_ne (Ne.symm S.x2)]; exact hh4.cl,by rw[upd_ne (Ne.symm ldd)]; exact hh4.dt,hh4.nd,hh4.th⟩,by rw[upd_ne S.x3]; exact s46 _ _ ec3,Told.erase z1' z2' j,ln,by have:=List.length_eraseIdx_le ts j; omega,S.x1,S.x2,S.x3⟩ (sqT_put hp6 z1')
   ·rw[decide_eq_false e]
    refine iteF ?_
    have enx:nxT n ts (kd/2) a x b=ts:=by
     unfold nxT
     rw[hdu,if_neg e]
    rw[enx] at ets
    subst ets
    refine⟨_,rfl,show 0<=sizeLine by decide,fun lg hlg=>?_⟩
    have s6:=same_new hlg (o:=.lst [])
    obtain⟨g3,g4⟩:=cmp _ lg (s6 _ _ (s4 _ _ eu3)) upd_same
    refine⟨marksD du,marksD [],g3,g4,marks_can _,marks_can _,marks_dep _,_,rfl,?_⟩
    rw[if_neg (by decide),marks_eqv,decide_eq_false e]
    refine iteF ?_
    have s46:=s4.trans s6
    exact nxt cs ts' _ _ ⟨sf3.trans (.of s46),hh3.same s46,s46 _ _ ec3,⟨ys,s46 _ _ z1,DenL.mono s46 _ _ z2⟩,ln,tl,S.x1,S.x2,S.x3⟩ (Same.seqT s46 hp3)
  obtain⟨tk,hkind,hqk⟩:=RK
  have R2:∃ t2,PSs (cxOf CX0 P w K mg base ["script", "first", "size", "names", "colours", "handed", "hall", "doors", "cell", "door", "kind", "due", "a"] "law" (defScope sLaw) f cdv A outer s H E).nox ((defBody sLaw).drop 10) t2 /\
    ∀ (H0 H1:Hp) (h dx c d ld lc ln:Addr) (n:Nat) (cs:List Int) (ts:List (List Int)) (first nc:Int) (v5 v8 v9 v10 v11:Option V),St1 K C H0 H1 h dx c d ld lc n cs ts->1<=n->n<=60->SqL K H1 ln ((namesOf nc).map V.int) ->
     t2 { nx:=fun _ H'=>Q .non H',rt:=Q } [some (.ref sc),some (.int first),some (.int n),some (.ref ln),some (.ref lc),v5,some (.ref h),some (.ref ld),v8,v9,v10,v11,none] H1:=by
   refine⟨_,(pss_cons (ps_for PassesOwn.never rfl (pi_range1 rfl T.range (pa_cons (pv 2) pa_nil)) (pg_name (i:=12) scLaw.nd rfl (Or.inl rfl)) (pss_one (ps_if (pt_not (pt_val (pe_call GR hr rfl DR.mg DR.fn.kp DR.bd .nil pass0 (pa_cons (pv 6) (pa_cons (pv 7) (pa_cons (pv 4) (pa_cons (pv 12) (pa_cons (pe_ix ix_list (pv 3) pe_int (fun _ _=>rfl)) pa_nil)))))))) (pss_one (ps_ret pe_bl)) pss_nil))) (pss_cons (ps_if (PW.pt (pw_or (pt_not (pt_val (pe_call GM hr rfl DM.mg DM.fn.kp DM.bd .nil pass0 (pa_cons pe_int pa_nil)))) (pw_or (pt_not (pt_val (pe_call GM hr rfl DM.mg DM.fn.kp DM.bd .nil pass0 (pa_cons (pe_op op_add pe_int (pe_op op_mod (pv 1) pe_int)) pa_nil)))) (pw_or1 (pt_not (pt_val (pe_call GW hr1 rfl DW.mg DW.fn.kp DW.bd .nil pass0 (pa_cons (pe_meth0 (pv 6) HC.cls DZ.mt GZ hr1 DZ.bd .nil pass0) pa_nil)))))))) (pss_one (ps_ret pe_bl)) pss_nil) (pss_one (ps_ret (pe_and (pe_cmpR op_eq (pe_meth0 (pv 6) HC.cls DZ.mt GZ hr1 DZ.bd .nil pass0) (pv 2) (nomark _)) (pe_one (pe_call GT hr rfl DT.mg DT.fn.kp DT.bd .nil pass0 (pa_cons (pv 6) (pa_cons (pv 7) pa_nil))))))))),?_⟩
   intro H0 H1 h dx c d ld lc ln n cs ts first nc v5 v8 v9 v10 v11 S n0 n1 hn
   have tl:=S.tl
   have lc':=S.len
   obtain⟨x,hx,x0,x9⟩:=names_pick nc 0 (by decide) (by decide)
   refine⟨_,rfl,(n:Int),rfl,by omega,by omega,for_range (lo:=0) (n:=n) (fun i σ H2=>Same H1 H2/\∃ u,σ=[some (.ref sc),some (.int first),some (.int n),some (.ref ln),some (.ref lc),v5,some (.ref h),some (.ref ld),v8,v9,v10,v11,u]) ⟨Same.refl _,none,rfl⟩ ?_ ?_⟩
   ·rintro i σ H2 hi ⟨s2,u,rfl⟩
    rw[Int.zero_add]
    have S2:=S.same s2
    refine⟨_,rfl,_,rfl,_,rfl,_,rfl,_,rfl,ln,_,_,_,rfl,rfl,s2.seq hn,hx,h,dx,c,d,ld,lc,cs,ts,ts,(i:Int),x,rfl,S2.hh,S2.to,List.Perm.refl _,SqL.of S2.ec,tell_of (by omega) (by omega),by omega,by omega,fun H3 s3=>⟨_,rfl,iteF ?_⟩⟩
    exact⟨s2.trans s3,_,rfl⟩
   ·rintro σ H2 ⟨s2,u,rfl⟩
    have S2:=S.same s2
    refine⟨0,rfl,(by show ¬ (1<=0/\0<=60); omega),by omega,fun H3 s3=>⟨_,rfl,iteF ?_⟩⟩
    have m0:=Int.emod_nonneg first (show (9:Int)≠0 by decide)
    have m1:=Int.emod_lt_of_pos first (show (0:Int)<9 by decide)
    refine⟨_,rfl,_,_,rfl,rfl,(by show (0:Int)<9; decide),_,_,rfl,rfl,(61+first % 9).toNat,?_,by omega,by omega,fun H4 s4=>⟨_,rfl,iteF ?_⟩⟩
    ·show [V.int (61+first % 9)]=[V.int (((61+first % 9).toNat:Nat):Int)]
     rw[Int.toNat_of_nonneg (by omega)]
    have S4:=(S2.same s3).same s4
    refine⟨_,rfl,h,dx,_,rfl,S4.hh.ob,rfl,h,dx,c,d,cs,ts,rfl,S4.hh,_,rfl,_,rfl,iteF ?_⟩
    refine⟨_,rfl,h,dx,_,rfl,S4.hh.ob,rfl,h,dx,c,d,cs,ts,rfl,S4.hh,_,rfl,rfl,_,rfl,iteB (by rw[lc']; exact decide_eq_true rfl) ?_⟩
    exact⟨_,rfl,_,rfl,h,dx,c,d,ld,cs,ts,ts,rfl,S4.hh,S4.to,List.Perm.refl _,by omega,fun H5 _=>q H5⟩
  obtain⟨t2,hp2,hq2⟩:=R2
  have R1:∃ t1,PSs (cxOf CX0 P w K mg base ["script", "first", "size", "names", "colours", "handed", "hall", "doors", "cell", "door", "kind", "due", "a"] "law" (defScope sLaw) f cdv A outer s H E).nox ((defBody sLaw).drop 3) t1 /\
    ∀ (first:Int) (n:Nat),1<=n->n<=60->t1 { nx:=fun _ H'=>Q .non H',rt:=Q } [some (.ref sc),some (.int first),some (.int n),none,none,none,none,none,none,none,none,none,none] H:=by
   refine⟨_,(pss_cons (ps_set (i:=3) scLaw.nd rfl (Or.inl rfl) (pe_call GN hr1 rfl DN.mg DN.fn.kp DN.bd .nil pass0 (pa_cons (pe_call GC hr1 rfl DC.mg DC.fn.kp DC.bd .nil pass0 (pa_cons (pv 0) (pa_cons pe_int pa_nil))) pa_nil))) (pss_cons (ps_setComp (i:=4) (o:=(defScope sLaw)) (N:=["script", "first", "size", "names", "colours", "handed", "hall", "doors", "cell", "door", "kind", "due", "a"]) (N':=["a", "first"]) (src:=[none,some 1]) ⟨by rfl,by decide +kernel,by decide +kernel,by decide +kernel,by rfl,by decide +kernel⟩ scLaw.nd rfl rfl (pi_range1 rfl T.range (pa_cons (pv 2) pa_nil)) (fun C s₀ H₀ ex=>(pg_name (i:=0) (show (["a", "first"]:List Str).Nodup by decide +kernel) rfl (Or.inl rfl))) (fun C s₀ H₀ ex=>pifs_nil) (fun C s₀ H₀ ex=>(pe_op op_mod (pe_op op_add (pv 1) (pe_op op_mul pe_int (pv 0))) pe_int))) (pss_cons (ps_set (i:=5) scLaw.nd rfl (Or.inl rfl) (pe_callTy call_list_of rfl T.list bList (pa_cons (pv 4) pa_nil))) (pss_cons (ps_set (i:=6) scLaw.nd rfl (Or.inl rfl) (pe_make M GI0 hr2 rfl HC.mg bI .nil pass0 (pa_cons (pv 5) pa_nil))) (pss_cons (ps_expr (pe_bm PySem.F.plainAttrs_list PySem.F.slot_list_append PySem.F.type_list_append mt_append (pv 5) (pa_cons pe_int pa_nil))) (pss_cons (ps_set (i:=7) scLaw.nd rfl (Or.inl rfl) (pe_lst pa_nil)) (pss_cons (ps_for PassesOwn.never rfl (pi_list (pe_slice sl_list (pv 0) (po_some pe_int) po_none)) (pg_name (i:=8) scLaw.nd rfl (Or.inl rfl)) (pss_cons (ps_set (i:=9) scLaw.nd rfl (Or.inl rfl) (pe_tup (pa_cons (pe_op op_sub (pe_op op_mod (pe_op op_fdiv (pv 8) pe_int) (pe_op op_add (pv 2) pe_int)) pe_int) (pa_cons (pe_ix ix_list (pv 3) (pe_op op_mod (pe_op op_fdiv (pv 8) pe_int) pe_int) (fun _ _=>rfl)) (pa_cons (pe_op op_sub (pe_op op_mod (pe_op op_fdiv (pe_op op_fdiv (pv 8) pe_int) (pe_op op_add (pv 2) pe_int)) (pe_op op_add (pv 2) pe_int)) pe_int) pa_nil))))) (pss_cons (ps_set (i:=10) scLaw.nd rfl (Or.inl rfl) (pe_op op_mod (pv 8) pe_int)) (pss_cons (ps_if (PW.pt (pw_and (pt_cmpR op_gt (pe_callB call_len_seq rfl T.len PySem.boot_len (pa_cons (pv 7) pa_nil)) pe_int (nomark _)) (pw_and1 (pt_cmpR op_lt (pv 10) pe_int (nomark _))))) (pss_one (ps_set (i:=10) scLaw.nd rfl (Or.inl rfl) pe_int)) pss_nil) (pss_cons hkind (pss_one htail)))))) hp2))))))),?_⟩
   intro first n n0 n1
   refine⟨_,rfl,sc,ns,_,rfl,hS,by decide,_,rfl,fun ln hln=>?_⟩
   have s1:=same_new hln (o:=.lst ((namesOf (cellAt ns 1)).map V.int))
   have en1:upd H ln (.lst ((namesOf (cellAt ns 1)).map V.int)) ln=some (.lst ((namesOf (cellAt ns 1)).map V.int)):=upd_same
   generalize hH1:upd H ln (.lst ((namesOf (cellAt ns 1)).map V.int))=H1 at s1 en1 ⊢
   refine⟨_,rfl,(n:Int),rfl,by omega,by omega,turns_range (lo:=0) (n:=n) (fun i σ ys H'=>H'=H1/\(∃ u,σ=[u,some (.int first)])/\ys=((List.range i).map fun j:Nat=>(first+37*(j:Int)) % 1000).map V.int) ⟨rfl,⟨none,rfl⟩,rfl⟩ ?_ (Nat.le_of_lt (small1000 (by omega))) ?_ ?_⟩
   ·rintro i σ ys H' hi ⟨_,_,rfl⟩
    rw[List.length_map,List.length_map,List.length_range]; omega
   ·rintro i σ ys H' hi ⟨rfl,⟨u,rfl⟩,rfl⟩
    refine gyes ?_
    rw[Int.zero_add]
    refine⟨_,rfl,_,rfl,_,_,rfl,rfl,.inl ⟨by decide,by decide⟩,_,_,rfl,rfl,_,_,rfl,rfl,(by show (0:Int)<1000; decide),rfl,⟨_,rfl⟩,?_⟩
    rw[List.range_succ,List.map_append,List.map_append]; rfl
   rintro σ ys H' ⟨rfl,_,rfl⟩
   generalize hcs:((List.range n).map fun j:Nat=>(first+37*(j:Int)) % 1000)=cs
   have cl:cs.length=n:=by rw[<-hcs,List.length_map,List.length_range]
   intro lc hlc
   have s2:=same_new hlc (o:=.lst (cs.map V.int))
   refine⟨_,rfl,lc,_,rfl,.inl (SqL.of upd_same),fun lh hlh=>?_⟩
   have s3:=same_new hlh (o:=.lst (cs.map V.int))
   have ec3:=s3 _ _ (upd_same (H:=H') (a:=lc) (o:=.lst (cs.map V.int)))
   have eh3:upd (upd H' lc (.lst (cs.map V.int))) lh (.lst (cs.map V.int)) lh=some (.lst (cs.map V.int)):=upd_same
   have S13:=s1.trans (s2.trans s3)
   have en3:=(s2.trans s3) _ _ en1
   have lcfree:H lc=none:=s1.free hlc
   have lclh:lc≠lh:=ne_of_none upd_same hlh
   generalize hH3:upd (upd H' lc (.lst (cs.map V.int))) lh (.lst (cs.map V.int))=H3 at s3 ec3 eh3 S13 en3 ⊢
   refine⟨_,rfl,?_⟩
   intro h dx hh hdx hne
   have hpx:lh≠h:=ne_of_none eh3 hh
   have hpd:lh≠dx:=ne_of_none eh3 hdx
   have sB:Same H3 (upd (upd H3 dx (.own h)) h (.ins C dx [])):=fun b o e=>by
    rw[upd_ne (ne_of_none e hh),upd_ne (ne_of_none e hdx)]; exact e
   refine⟨h,dx,lh,cs,rfl,upd_same,SqL.of (by rw[upd_ne hpx,upd_ne hpd]; exact eh3),fun _ c d H4 hc hd sx ha=>?_,fun z=>z (by omega)⟩
   refine⟨rfl,?_⟩
   have s4:Same H3 H4:=fun b o e=>sx b o (ne_of_none e hh) (sB b o e)
   have eh4:=s4 _ _ eh3
   refine⟨_,rfl,.inl ⟨rfl,_,SqL.of eh4⟩,lh,_,_,rfl,rfl,eh4,by rw[List.length_map]; exact small1000 (by omega),?_⟩
   have cH3:H3 c=none:=Same.free sB hc
   have dH3:H3 d=none:=Same.free sB hd
   have lhc:lh≠c:=ne_of_none eh3 cH3
   have lhd:lh≠d:=ne_of_none eh3 dH3
   refine⟨show 0<=sizeLine by decide,fun ld hld=>?_⟩
   have s6:=same_new hld (o:=.lst [])
   have ec5:upd H4 lh (.lst (cs.map V.int++[.int 5])) lc=some (.lst (cs.map V.int)):=by rw[upd_ne lclh]; exact s4 _ _ ec3
   have hh5:HallAt C (upd H4 lh (.lst (cs.map V.int++[.int 5]))) h dx c d cs []:=⟨by rw[upd_ne (ne_of ha.ob eh4 (fun e=>by cases e))]; exact ha.ob,by rw[upd_ne (Ne.symm lhc)]; exact ha.cl,by rw[upd_ne (Ne.symm lhd)]; exact ha.dt,ha.nd,ha.th⟩
   have x1:lc≠c:=ne_of_none ec3 cH3
   have x2:ld≠c:=Ne.symm (ne_of_none hh5.cl hld)
   have x3:lc≠ld:=ne_of_none ec5 hld
   have sH5:Same H (upd H4 lh (.lst (cs.map V.int++[.int 5]))):=L3.Same.putD (S13.trans s4) (s1.free (s2.free hlh))
   have sH6:=sH5.trans s6
   have lnlh:ln≠lh:=ne_of_none (s2 _ _ en1) hlh
   have en6:upd (upd H4 lh (.lst (cs.map V.int++[.int 5]))) ld (.lst []) ln=some (.lst ((namesOf (cellAt ns 1)).map V.int)):=s6 _ _ (by rw[upd_ne lnlh]; exact s4 _ _ en3)
   have hS6:=sH6.seq hS
   refine⟨_,rfl,2,rfl,sc,_,rfl,hS6,fun lx hlx=>?_⟩
   have s7:=same_new hlx (o:=.lst (cutV (ns.map V.int) (some 2) none))
   have St0:St1 K C (upd (upd (upd H4 lh (.lst (cs.map V.int++[.int 5]))) ld (.lst [])) lx (.lst (cutV (ns.map V.int) (some 2) none))) (upd (upd (upd H4 lh (.lst (cs.map V.int++[.int 5]))) ld (.lst [])) lx (.lst (cutV (ns.map V.int) (some 2) none))) h dx c d ld lc n cs []:=
    ⟨fun b o _ e=>e,(hh5.same s6).same s7,s7 _ _ (s6 _ _ ec5),⟨[],s7 _ _ upd_same,rfl⟩,cl,by simp,x1,x2,x3⟩
   have el:upd (upd (upd H4 lh (.lst (cs.map V.int++[.int 5]))) ld (.lst [])) lx (.lst (cutV (ns.map V.int) (some 2) none)) lx=some (.lst (cutV (ns.map V.int) (some 2) none)):=upd_same
   have en7:=s7 _ _ en6
   obtain⟨ks,eks,kl⟩ : ∃ ks:List Int,cutV (ns.map V.int) (some 2) none=ks.map V.int/\ks.length<=ns.length:=⟨_,by unfold cutV; rw[<-List.map_drop,← List.map_take],by rw[List.length_take,List.length_drop]; omega⟩
   rw[eks] at St0 el en7 ⊢
   generalize hH7:upd (upd (upd H4 lh (.lst (cs.map V.int++[.int 5]))) ld (.lst [])) lx (.lst (ks.map V.int))=H7 at St0 el en7 ⊢
   have nlx:lx∉[c,d,lc,ld]:=by
    have h6:∀ {b:Addr} {o:HO},upd H4 lh (.lst (cs.map V.int++[.int 5])) b=some o->lx≠b:=fun e=>Ne.symm (ne_of_none (s6 _ _ e) hlx)
    have e1:=h6 hh5.cl
    have e2:=h6 hh5.dt
    have e3:=h6 ec5
    have e4:lx≠ld:=Ne.symm (ne_of_none upd_same hlx)
    simp[e1,e2,e3,e4]
   have nln:ln∉[c,d,lc,ld]:=by
    have enH3:=en3
    have e1:ln≠c:=ne_of_none enH3 cH3
    have e2:ln≠d:=ne_of_none enH3 dH3
    have e3:ln≠lc:=ne_of_none en1 hlc
    have e4:ln≠ld:=ne_of_none (show upd H4 lh (.lst (cs.map V.int++[.int 5])) ln=some _ from by rw[upd_ne lnlh]; exact s4 _ _ en3) hld
    simp[e1,e2,e3,e4]
   have cin:c∈[c,d,lc,ld]:=by simp
   have din:d∈[c,d,lc,ld]:=by simp
   have lcin:lc∈[c,d,lc,ld]:=by simp
   have ldin:ld∈[c,d,lc,ld]:=by simp
   refine⟨lx,rfl,⟨_,SqL.of el⟩,for_list (K:=K) (a:=lx) (xs:=ks.map V.int) (fun i σ H8=>(∃ cs ts,St1 K C H7 H8 h dx c d ld lc n cs ts)/\∃ v8 v9 v10 v11,σ=[some (.ref sc),some (.int first),some (.int n),some (.ref ln),some (.ref lc),some (.ref lh),some (.ref h),some (.ref ld),v8,v9,v10,v11,none]) ⟨⟨_,_,St0⟩,none,none,none,none,rfl⟩ (fun i σ H8 _ hP=>by
    obtain⟨⟨cs,ts,S⟩,_⟩:=hP
    exact SqL.of (S.sf _ _ nlx el)) ?_ ?_⟩
   ·rintro i xv σ H8 hxv ⟨⟨cs,ts,S⟩,v8,v9,v10,v11,rfl⟩
    rw[List.getElem?_map] at hxv
    obtain⟨cell,hcell,rfl⟩:=Option.map_eq_some_iff.mp hxv
    have hn8:SqL K H8 ln ((namesOf (cellAt ns 1)).map V.int):=SqL.of (S.sf _ _ nln en7)
    obtain⟨x,hx,x0,x9⟩:=names_pick (cellAt ns 1) (cell/7 % 3) (Int.emod_nonneg _ (by decide)) (Int.emod_lt_of_pos _ (by decide))
    have z2:(0:Int)<(n:Int)+2:=by omega
    have a0:=Int.emod_nonneg (cell/4) (show (n:Int)+2≠0 by omega)
    have a1:=Int.emod_lt_of_pos (cell/4) z2
    have b0:=Int.emod_nonneg (cell/4/((n:Int)+2)) (show (n:Int)+2≠0 by omega)
    have b1:=Int.emod_lt_of_pos (cell/4/((n:Int)+2)) z2
    refine⟨_,rfl,_,_,rfl,rfl,⟨by decide,by decide⟩,_,rfl,_,_,rfl,rfl,_,_,rfl,rfl,z2,_,_,rfl,rfl,_,rfl,_,rfl,_,_,rfl,rfl,⟨by decide,by decide⟩,_,_,rfl,rfl,(by show (0:Int)<3; decide),ln,_,_,_,rfl,rfl,hn8,hx,_,rfl,_,_,rfl,rfl,⟨by decide,by decide⟩,_,rfl,_,_,rfl,rfl,_,_,rfl,rfl,⟨z2,by show (n:Int)+2<1073741824; omega⟩,_,rfl,_,_,rfl,rfl,_,_,rfl,rfl,z2,_,_,rfl,rfl,show 3<=sizeLine by decide,fun p hp=>?_⟩
    have s9:=same_new hp (o:=.tup [.int (cell/4 % ((n:Int)+2)-1),.int x,.int (cell/4/((n:Int)+2) % ((n:Int)+2)-1)])
    have S9:=S.same s9
    have pt:SqT K (upd H8 p (.tup [.int (cell/4 % ((n:Int)+2)-1),.int x,.int (cell/4/((n:Int)+2) % ((n:Int)+2)-1)])) p [.int (cell/4 % ((n:Int)+2)-1),.int x,.int (cell/4/((n:Int)+2) % ((n:Int)+2)-1)]:=SqT.of upd_same
    obtain⟨ys,y1,y2⟩:=id S9.to
    have yl:ys.length=ts.length:=Told.len y2
    have c0:=Int.emod_nonneg cell (show (4:Int)≠0 by decide)
    have c4:=Int.emod_lt_of_pos cell (show (0:Int)<4 by decide)
    refine⟨_,rfl,_,_,rfl,rfl,(by show (0:Int)<4; decide),?_⟩
    have go:∀ (kd:Int),0<=kd->kd<=3->(kd<2->ts.length<=390)->tk { nx:=fun σ' H'=>tt { nx:=fun σ2 H2=>(∃ cs ts,St1 K C H7 H2 h dx c d ld lc n cs ts)/\∃ v8 v9 v10 v11,σ2=[some (.ref sc),some (.int first),some (.int n),some (.ref ln),some (.ref lc),some (.ref lh),some (.ref h),some (.ref ld),v8,v9,v10,v11,none],rt:=Q,bk:=t2 { nx:=fun _ H'=>Q .non H',rt:=Q },ct:=fun σ2 H2=>(∃ cs ts,St1 K C H7 H2 h dx c d ld lc n cs ts)/\∃ v8 v9 v10 v11,σ2=[some (.ref sc),some (.int first),some (.int n),some (.ref ln),some (.ref lc),some (.ref lh),some (.ref h),some (.ref ld),v8,v9,v10,v11,none] } σ' H',rt:=Q,bk:=t2 { nx:=fun _ H'=>Q .non H',rt:=Q },ct:=fun σ2 H2=>(∃ cs ts,St1 K C H7 H2 h dx c d ld lc n cs ts)/\∃ v8 v9 v10 v11,σ2=[some (.ref sc),some (.int first),some (.int n),some (.ref ln),some (.ref lc),some (.ref lh),some (.ref h),some (.ref ld),v8,v9,v10,v11,none] }
      [some (.ref sc),some (.int first),some (.int n),some (.ref ln),some (.ref lc),some (.ref lh),some (.ref h),some (.ref ld),some (.int cell),some (.ref p),some (.int kd),v11,none] (upd H8 p (.tup [.int (cell/4 % ((n:Int)+2)-1),.int x,.int (cell/4/((n:Int)+2) % ((n:Int)+2)-1)])):=fun kd k0 k3 kl=>by
     refine hqk _ H7 _ h dx c d ld lc p n cs ts (cell/4 % ((n:Int)+2)-1) x (cell/4/((n:Int)+2) % ((n:Int)+2)-1) cell kd _ _ _ _ _ S9 n1 pt ?_ (by omega) (by omega) (by omega) (by omega) x0 x9 k0 k3 kl fun cs' ts' H10 v11' S10 p10=>?_
     ·cases e:H7 p with
      | none=>rfl
      | some o=>
       by_cases hin:p∈[c,d,lc,ld]
       ·simp only[List.mem_cons,List.not_mem_nil,or_false] at hin
        rcases hin with z | z | z | z
        ·have:=S.hh.cl; rw[<-z,hp] at this; cases this
        ·have:=S.hh.dt; rw[<-z,hp] at this; cases this
        ·have:=S.ec; rw[<-z,hp] at this; cases this
        ·obtain⟨zs,z1,_⟩:=S.to; rw[<-z,hp] at z1; cases z1
       ·have:=S.sf _ _ hin e; rw[hp] at this; cases this
     ·exact hqt _ H7 H10 h dx c d ld lc p n cs' ts' _ x _ _ _ _ _ _ _ _ _ S10 n1 p10 (tell_of (by omega) (by omega)) fun H11 s11=>⟨⟨cs',ts',S10.same s11⟩,_,_,_,_,rfl⟩
    refine⟨_,rfl,ld,_,rfl,.inl (SqL.of y1),_,_,rfl,rfl,_,rfl,?_⟩
    rw[yl]
    refine ite2 (fun hc=>?_) (fun hc=>?_)
    ·refine⟨_,rfl,_,_,rfl,rfl,_,rfl,ite2 (fun hc2=>?_) (fun hc2=>?_)⟩
     ·exact go 2 (by decide) (by decide) (fun z=>absurd z (by decide))
     ·have:¬ cell % 4<2:=fun z=>hc2 (decide_eq_true z)
      exact go (cell % 4) c0 (by omega) (fun z=>absurd z this)
    ·have:¬ (390:Int)<((ts.length:Nat):Int):=fun z=>hc (decide_eq_true z)
     exact go (cell % 4) c0 (by omega) (fun _=>by omega)
   ·rintro σ H8 ⟨⟨cs,ts,S⟩,v8,v9,v10,v11,rfl⟩
    exact hq2 H7 H8 h dx c d ld lc ln n cs ts first (cellAt ns 1) _ _ _ _ _ S n0 n1 (SqL.of (S.sf _ _ nln en7))
  obtain⟨t1,hp1,hq1⟩:=R1
  refine⟨_,(pss_cons (ps_set (i:=1) scLaw.nd rfl (Or.inr rfl) (pe_call GC hr1 rfl DC.mg DC.fn.kp DC.bd .nil pass0 (pa_cons (pv 0) (pa_cons pe_int pa_nil)))) (pss_cons (ps_set (i:=2) scLaw.nd rfl (Or.inl rfl) (pe_op op_add pe_int (pe_op op_mod (pv 1) pe_int))) (pss_cons (ps_if (pt_cmpR op_eq (pe_op op_mod (pe_op op_fdiv (pv 1) pe_int) pe_int) pe_int (nomark _)) (pss_one (ps_set (i:=2) scLaw.nd rfl (Or.inl rfl) (pe_op op_add pe_int (pe_op op_mod (pe_op op_fdiv (pv 1) pe_int) pe_int)))) pss_nil) hp1))),?_⟩
  refine⟨_,rfl,sc,ns,_,rfl,hS,by decide,?_⟩
  refine⟨_,rfl,_,_,rfl,rfl,(by show (0:Int)<6; decide),_,_,rfl,rfl,?_⟩
  have m0:=Int.emod_nonneg (cellAt ns 0) (show (6:Int)≠0 by decide)
  have m1:=Int.emod_lt_of_pos (cellAt ns 0) (show (0:Int)<6 by decide)
  have k0:=Int.emod_nonneg (cellAt ns 0/24) (show (54:Int)≠0 by decide)
  have k1:=Int.emod_lt_of_pos (cellAt ns 0/24) (show (0:Int)<54 by decide)
  refine⟨_,rfl,_,_,rfl,rfl,⟨by decide,by decide⟩,_,_,rfl,rfl,(by show (0:Int)<4; decide),rfl,_,rfl,ite2 (fun hc=>?_) (fun hc=>?_)⟩
  ·refine⟨_,rfl,_,_,rfl,rfl,⟨by decide,by decide⟩,_,_,rfl,rfl,(by show (0:Int)<54; decide),_,_,rfl,rfl,?_⟩
   have key:=hq1 (cellAt ns 0) (7+cellAt ns 0/24 % 54).toNat (by omega) (by omega)
   rw[show (((7+cellAt ns 0/24 % 54).toNat:Nat):Int)=7+cellAt ns 0/24 % 54 from Int.toNat_of_nonneg (by omega)] at key
   exact key
  ·have key:=hq1 (cellAt ns 0) (1+cellAt ns 0 % 6).toNat (by omega) (by omega)
   rw[show (((1+cellAt ns 0 % 6).toNat:Nat):Int)=1+cellAt ns 0 % 6 from Int.toNat_of_nonneg (by omega)] at key
   exact key
end
end K01
namespace K01
open PySem L2 L3
theorem kit_ref {K:PySem.W.Frag} {C D:Addr} {x:Value} {r b:Bool} (h1:PySem.W.mroIn K D x=some r) (h2:PySem.W.typeIn K (.ref D)=some (.type "type")) (h3:PySem.W.subIn K (.ref C) (.ref D)=some b) (hb:C=D->b=true):PySem.W.kitOne K (.ref C) (.ref D)=some b:=by
 unfold PySem.W.kitOne
 by_cases e:(Value.ref C == Value.ref D)=true
 ·rw[if_pos e]
  have:C=D:=by
   have:=beq_iff_eq.mp e
   injection this
  rw[hb this]
 ·rw[if_neg e]
  have hs:(PySem.W.clsIn K D).isSome=true:=by
   unfold PySem.W.mroIn at h1
   obtain⟨cd,e1,_⟩:=Option.bind_eq_some_iff.mp h1
   rw[e1]; rfl
  unfold PySem.W.kitCls
  dsimp only
  rw[if_pos (by rw[hs,h2]; rfl)]
  exact h3
theorem kit_ty {K:PySem.W.Frag} {C:Addr} {T:String} {b:Bool} (h3:PySem.W.subIn K (.ref C) (.type T)=some b) (hm:PySem.W.kitMeta T=true):PySem.W.kitOne K (.ref C) (.type T)=some b:=by
 unfold PySem.W.kitOne
 rw[if_neg (by intro e; cases (beq_iff_eq.mp e))]
 unfold PySem.W.kitCls
 dsimp only
 rw[if_pos hm]
 exact h3
theorem all_mk {l:PySem.W.OpenLaw} {w:World} {K:PySem.W.Frag} {h:Heap} {mg:Str->Option Value} {fa cH:Addr} {tr td:Tok} (X:K.In h) (G:h.Ns mainGlobals mg) (hfa:mg "law" = some (.ref fa))
  {f0:Addr} {od0 an0:Option Addr} {sl0:Array (Option Value)} {oc0 kV0 dc0 pm0 cd0 ct0:Value}
  {f1:Addr} {od1 an1:Option Addr} {sl1:Array (Option Value)} {oc1 kV1 dc1 pm1 cd1 ct1:Value}
  {f2:Addr} {od2 an2:Option Addr} {sl2:Array (Option Value)} {oc2 kV2 dc2 pm2 cd2 ct2:Value}
  {f3:Addr} {od3 an3:Option Addr} {sl3:Array (Option Value)} {oc3 kV3 dc3 pm3 cd3 ct3:Value}
  {f4:Addr} {od4 an4:Option Addr} {sl4:Array (Option Value)} {oc4 kV4 dc4 pm4 cd4 ct4:Value}
  {f5:Addr} {od5 an5:Option Addr} {sl5:Array (Option Value)} {oc5 kV5 dc5 pm5 cd5 ct5:Value}
  {f6:Addr} {od6 an6:Option Addr} {sl6:Array (Option Value)} {oc6 kV6 dc6 pm6 cd6 ct6:Value}
  {f7:Addr} {od7 an7:Option Addr} {sl7:Array (Option Value)} {oc7 kV7 dc7 pm7 cd7 ct7:Value}
  {f8:Addr} {od8 an8:Option Addr} {sl8:Array (Option Value)} {oc8 kV8 dc8 pm8 cd8 ct8:Value}
  {f9:Addr} {od9 an9:Option Addr} {sl9:Array (Option Value)} {oc9 kV9 dc9 pm9 cd9 ct9:Value}
  {fJ:Addr} {odJ anJ:Option Addr} {slJ:Array (Option Value)} {ocJ kVJ dcJ pmJ cdJ ctJ:Value}
  {f100:Addr} {od100 an100:Option Addr} {sl100:Array (Option Value)} {oc100 kV100 dc100 pm100 cd100 ct100:Value}
  {f101:Addr} {od101 an101:Option Addr} {sl101:Array (Option Value)} {oc101 kV101 dc101 pm101 cd101 ct101:Value}
  {f102:Addr} {od102 an102:Option Addr} {sl102:Array (Option Value)} {oc102 kV102 dc102 pm102 cd102 ct102:Value}
  {f103:Addr} {od103 an103:Option Addr} {sl103:Array (Option Value)} {oc103 kV103 dc103 pm103 cd103 ct103:Value}
  {f104:Addr} {od104 an104:Option Addr} {sl104:Array (Option Value)} {oc104 kV104 dc104 pm104 cd104 ct104:Value}
  {f105:Addr} {od105 an105:Option Addr} {sl105:Array (Option Value)} {oc105 kV105 dc105 pm105 cd105 ct105:Value}
  {f106:Addr} {od106 an106:Option Addr} {sl106:Array (Option Value)} {oc106 kV106 dc106 pm106 cd106 ct106:Value}
  {f107:Addr} {od107 an107:Option Addr} {sl107:Array (Option Value)} {oc107 kV107 dc107 pm107 cd107 ct107:Value}
  {f108:Addr} {od108 an108:Option Addr} {sl108:Array (Option Value)} {oc108 kV108 dc108 pm108 cd108 ct108:Value}
  {e0:Addr}
  {e1:Addr}
  {e2:Addr}
  {e3:Addr}
  {e4:Addr}
  (gH:PySem.W.nsIn K mainGlobals "Hall" = some (some (.ref cH)))
  (a0:PySem.W.nsIn K mainGlobals "_law_cell_at" = some (some (.ref f0)))
  (l0:K.lookup f0=some ⟨oc0,od0,.func (PySem.W.fnOf "_law_cell_at" "_law_cell_at" (defArgs sCell) (defBody sCell) (defScope sCell) .none kV0 dc0 pm0 an0 cd0 ct0),sl0⟩)
  (c0:PySem.W.codeIn K cd0 "_law_cell_at" = true)
  (k0:PySem.W.keepIn K (.ref f0)=true)
  (a1:PySem.W.nsIn K mainGlobals "_law_whole" = some (some (.ref f1)))
  (l1:K.lookup f1=some ⟨oc1,od1,.func (PySem.W.fnOf "_law_whole" "_law_whole" (defArgs sWhole) (defBody sWhole) (defScope sWhole) .none kV1 dc1 pm1 an1 cd1 ct1),sl1⟩)
  (c1:PySem.W.codeIn K cd1 "_law_whole" = true)
  (k1:PySem.W.keepIn K (.ref f1)=true)
  (a2:PySem.W.nsIn K mainGlobals "_law_names" = some (some (.ref f2)))
  (l2:K.lookup f2=some ⟨oc2,od2,.func (PySem.W.fnOf "_law_names" "_law_names" (defArgs sNames) (defBody sNames) (defScope sNames) .none kV2 dc2 pm2 an2 cd2 ct2),sl2⟩)
  (c2:PySem.W.codeIn K cd2 "_law_names" = true)
  (k2:PySem.W.keepIn K (.ref f2)=true)
  (a3:PySem.W.nsIn K mainGlobals "_law_due" = some (some (.ref f3)))
  (l3:K.lookup f3=some ⟨oc3,od3,.func (PySem.W.fnOf "_law_due" "_law_due" (defArgs sDue) (defBody sDue) (defScope sDue) .none kV3 dc3 pm3 an3 cd3 ct3),sl3⟩)
  (c3:PySem.W.codeIn K cd3 "_law_due" = true)
  (k3:PySem.W.keepIn K (.ref f3)=true)
  (a4:PySem.W.nsIn K mainGlobals "_law_did" = some (some (.ref f4)))
  (l4:K.lookup f4=some ⟨oc4,od4,.func (PySem.W.fnOf "_law_did" "_law_did" (defArgs sDid) (defBody sDid) (defScope sDid) .none kV4 dc4 pm4 an4 cd4 ct4),sl4⟩)
  (c4:PySem.W.codeIn K cd4 "_law_did" = true)
  (k4:PySem.W.keepIn K (.ref f4)=true)
  (a5:PySem.W.nsIn K mainGlobals "_law_same_numbers" = some (some (.ref f5)))
  (l5:K.lookup f5=some ⟨oc5,od5,.func (PySem.W.fnOf "_law_same_numbers" "_law_same_numbers" (defArgs sSameN) (defBody sSameN) (defScope sSameN) .none kV5 dc5 pm5 an5 cd5 ct5),sl5⟩)
  (c5:PySem.W.codeIn K cd5 "_law_same_numbers" = true)
  (k5:PySem.W.keepIn K (.ref f5)=true)
  (a6:PySem.W.nsIn K mainGlobals "_law_doors_told" = some (some (.ref f6)))
  (l6:K.lookup f6=some ⟨oc6,od6,.func (PySem.W.fnOf "_law_doors_told" "_law_doors_told" (defArgs sDoorsTold) (defBody sDoorsTold) (defScope sDoorsTold) .none kV6 dc6 pm6 an6 cd6 ct6),sl6⟩)
  (c6:PySem.W.codeIn K cd6 "_law_doors_told" = true)
  (k6:PySem.W.keepIn K (.ref f6)=true)
  (a7:PySem.W.nsIn K mainGlobals "_law_room_told" = some (some (.ref f7)))
  (l7:K.lookup f7=some ⟨oc7,od7,.func (PySem.W.fnOf "_law_room_told" "_law_room_told" (defArgs sRoomTold) (defBody sRoomTold) (defScope sRoomTold) .none kV7 dc7 pm7 an7 cd7 ct7),sl7⟩)
  (c7:PySem.W.codeIn K cd7 "_law_room_told" = true)
  (k7:PySem.W.keepIn K (.ref f7)=true)
  (a8:PySem.W.nsIn K mainGlobals "_law_too_many" = some (some (.ref f8)))
  (l8:K.lookup f8=some ⟨oc8,od8,.func (PySem.W.fnOf "_law_too_many" "_law_too_many" (defArgs sTooMany) (defBody sTooMany) (defScope sTooMany) .none kV8 dc8 pm8 an8 cd8 ct8),sl8⟩)
  (c8:PySem.W.codeIn K cd8 "_law_too_many" = true)
  (k8:PySem.W.keepIn K (.ref f8)=true)
  (a9:PySem.W.nsIn K mainGlobals "law" = some (some (.ref f9)))
  (l9:K.lookup f9=some ⟨oc9,od9,.func (PySem.W.fnOf "law" "law" (defArgs sLaw) (defBody sLaw) (defScope sLaw) .none kV9 dc9 pm9 an9 cd9 ct9),sl9⟩)
  (c9:PySem.W.codeIn K cd9 "law" = true)
  (k9:PySem.W.keepIn K (.ref f9)=true)
  (m0:PySem.W.findIn K (.ref cH) "__init__" = some (some (.ref fJ)))
  (lJ:K.lookup fJ=some ⟨ocJ,odJ,.func (PySem.W.fnOf "__init__" "Hall.__init__" (defArgs sInit) (defBody sInit) (defScope sInit) .none kVJ dcJ pmJ anJ cdJ ctJ),slJ⟩)
  (cJ:PySem.W.codeIn K cdJ "Hall.__init__" = true)
  (kJ:PySem.W.keepIn K (.ref fJ)=true)
  (nJ:PySem.W.isFn K (.ref fJ)=true)
  (mk:PySem.W.makesIn K cH=true)
  (kH:PySem.W.keepIn K (.ref cH)=true)
  (h1:PySem.W.plainGet K cH Str.empty=true)
  (h2:PySem.W.hasDictIn K cH=true)
  (h3:PySem.W.plainOver K cH=true)
  (h4:PySem.W.findIn K (.ref cH) "__setattr__" = some (some (.builtin "object.__setattr__")))
  (h5:PySem.W.findIn K (.ref cH) "colours" = some none)
  (h6:PySem.W.findIn K (.ref cH) "door_table" = some none)
  (b100:PySem.W.findIn K (.ref cH) "size" = some (some (.ref f100)))
  (l100:K.lookup f100=some ⟨oc100,od100,.func (PySem.W.fnOf "size" "Hall.size" (defArgs sSize) (defBody sSize) (defScope sSize) .none kV100 dc100 pm100 an100 cd100 ct100),sl100⟩)
  (c100:PySem.W.codeIn K cd100 "Hall.size" = true)
  (k100:PySem.W.keepIn K (.ref f100)=true)
  (n100:PySem.W.isFn K (.ref f100)=true)
  (b101:PySem.W.findIn K (.ref cH) "check_room" = some (some (.ref f101)))
  (l101:K.lookup f101=some ⟨oc101,od101,.func (PySem.W.fnOf "check_room" "Hall.check_room" (defArgs sCheck) (defBody sCheck) (defScope sCheck) .none kV101 dc101 pm101 an101 cd101 ct101),sl101⟩)
  (c101:PySem.W.codeIn K cd101 "Hall.check_room" = true)
  (k101:PySem.W.keepIn K (.ref f101)=true)
  (n101:PySem.W.isFn K (.ref f101)=true)
  (b102:PySem.W.findIn K (.ref cH) "colour" = some (some (.ref f102)))
  (l102:K.lookup f102=some ⟨oc102,od102,.func (PySem.W.fnOf "colour" "Hall.colour" (defArgs sColour) (defBody sColour) (defScope sColour) .none kV102 dc102 pm102 an102 cd102 ct102),sl102⟩)
  (c102:PySem.W.codeIn K cd102 "Hall.colour" = true)
  (k102:PySem.W.keepIn K (.ref f102)=true)
  (n102:PySem.W.isFn K (.ref f102)=true)
  (b103:PySem.W.findIn K (.ref cH) "paint" = some (some (.ref f103)))
  (l103:K.lookup f103=some ⟨oc103,od103,.func (PySem.W.fnOf "paint" "Hall.paint" (defArgs sPaint) (defBody sPaint) (defScope sPaint) .none kV103 dc103 pm103 an103 cd103 ct103),sl103⟩)
  (c103:PySem.W.codeIn K cd103 "Hall.paint" = true)
  (k103:PySem.W.keepIn K (.ref f103)=true)
  (n103:PySem.W.isFn K (.ref f103)=true)
  (b104:PySem.W.findIn K (.ref cH) "open_door" = some (some (.ref f104)))
  (l104:K.lookup f104=some ⟨oc104,od104,.func (PySem.W.fnOf "open_door" "Hall.open_door" (defArgs sOpen) (defBody sOpen) (defScope sOpen) .none kV104 dc104 pm104 an104 cd104 ct104),sl104⟩)
  (c104:PySem.W.codeIn K cd104 "Hall.open_door" = true)
  (k104:PySem.W.keepIn K (.ref f104)=true)
  (n104:PySem.W.isFn K (.ref f104)=true)
  (b105:PySem.W.findIn K (.ref cH) "shut_door" = some (some (.ref f105)))
  (l105:K.lookup f105=some ⟨oc105,od105,.func (PySem.W.fnOf "shut_door" "Hall.shut_door" (defArgs sShut) (defBody sShut) (defScope sShut) .none kV105 dc105 pm105 an105 cd105 ct105),sl105⟩)
  (c105:PySem.W.codeIn K cd105 "Hall.shut_door" = true)
  (k105:PySem.W.keepIn K (.ref f105)=true)
  (n105:PySem.W.isFn K (.ref f105)=true)
  (b106:PySem.W.findIn K (.ref cH) "doors" = some (some (.ref f106)))
  (l106:K.lookup f106=some ⟨oc106,od106,.func (PySem.W.fnOf "doors" "Hall.doors" (defArgs sDoors) (defBody sDoors) (defScope sDoors) .none kV106 dc106 pm106 an106 cd106 ct106),sl106⟩)
  (c106:PySem.W.codeIn K cd106 "Hall.doors" = true)
  (k106:PySem.W.keepIn K (.ref f106)=true)
  (n106:PySem.W.isFn K (.ref f106)=true)
  (b107:PySem.W.findIn K (.ref cH) "names" = some (some (.ref f107)))
  (l107:K.lookup f107=some ⟨oc107,od107,.func (PySem.W.fnOf "names" "Hall.names" (defArgs sNamesM) (defBody sNamesM) (defScope sNamesM) .none kV107 dc107 pm107 an107 cd107 ct107),sl107⟩)
  (c107:PySem.W.codeIn K cd107 "Hall.names" = true)
  (k107:PySem.W.keepIn K (.ref f107)=true)
  (n107:PySem.W.isFn K (.ref f107)=true)
  (b108:PySem.W.findIn K (.ref cH) "ways" = some (some (.ref f108)))
  (l108:K.lookup f108=some ⟨oc108,od108,.func (PySem.W.fnOf "ways" "Hall.ways" (defArgs sWays) (defBody sWays) (defScope sWays) .none kV108 dc108 pm108 an108 cd108 ct108),sl108⟩)
  (c108:PySem.W.codeIn K cd108 "Hall.ways" = true)
  (k108:PySem.W.keepIn K (.ref f108)=true)
  (n108:PySem.W.isFn K (.ref f108)=true)
  (x0:PySem.W.nsIn K mainGlobals "HallError" = some (some (.ref e0)))
  (xe0:PySem.W.excIn K e0 bmV "ValueError.__new__" = true)
  (xc0:PySem.W.findIn K (.ref e0) "__class__" = some (some (.builtin "object.__class__")))
  (xg0:PySem.W.findIn K (.ref e0) "__getattribute__" = some (some (.builtin "BaseException.__getattribute__")))
  (xn0:PySem.W.findIn K (.ref e0) "__getattr__" = some none)
  (xt0:PySem.W.typeIn K (.ref e0)=some (.type "type"))
  (xm0:PySem.W.mroIn K e0 (.ref e0)=some true)
  (x1:PySem.W.nsIn K mainGlobals "NoRoom" = some (some (.ref e1)))
  (xe1:PySem.W.excIn K e1 bmV "ValueError.__new__" = true)
  (xc1:PySem.W.findIn K (.ref e1) "__class__" = some (some (.builtin "object.__class__")))
  (xg1:PySem.W.findIn K (.ref e1) "__getattribute__" = some (some (.builtin "BaseException.__getattribute__")))
  (xn1:PySem.W.findIn K (.ref e1) "__getattr__" = some none)
  (xt1:PySem.W.typeIn K (.ref e1)=some (.type "type"))
  (xm1:PySem.W.mroIn K e1 (.ref e1)=some true)
  (x2:PySem.W.nsIn K mainGlobals "NoDoor" = some (some (.ref e2)))
  (xe2:PySem.W.excIn K e2 bmV "ValueError.__new__" = true)
  (xc2:PySem.W.findIn K (.ref e2) "__class__" = some (some (.builtin "object.__class__")))
  (xg2:PySem.W.findIn K (.ref e2) "__getattribute__" = some (some (.builtin "BaseException.__getattribute__")))
  (xn2:PySem.W.findIn K (.ref e2) "__getattr__" = some none)
  (xt2:PySem.W.typeIn K (.ref e2)=some (.type "type"))
  (xm2:PySem.W.mroIn K e2 (.ref e2)=some true)
  (x3:PySem.W.nsIn K mainGlobals "DoorThere" = some (some (.ref e3)))
  (xe3:PySem.W.excIn K e3 bmV "ValueError.__new__" = true)
  (xc3:PySem.W.findIn K (.ref e3) "__class__" = some (some (.builtin "object.__class__")))
  (xg3:PySem.W.findIn K (.ref e3) "__getattribute__" = some (some (.builtin "BaseException.__getattribute__")))
  (xn3:PySem.W.findIn K (.ref e3) "__getattr__" = some none)
  (xt3:PySem.W.typeIn K (.ref e3)=some (.type "type"))
  (xm3:PySem.W.mroIn K e3 (.ref e3)=some true)
  (x4:PySem.W.nsIn K mainGlobals "TooMany" = some (some (.ref e4)))
  (xe4:PySem.W.excIn K e4 bmV "ValueError.__new__" = true)
  (xc4:PySem.W.findIn K (.ref e4) "__class__" = some (some (.builtin "object.__class__")))
  (xg4:PySem.W.findIn K (.ref e4) "__getattribute__" = some (some (.builtin "BaseException.__getattribute__")))
  (xn4:PySem.W.findIn K (.ref e4) "__getattr__" = some none)
  (xt4:PySem.W.typeIn K (.ref e4)=some (.type "type"))
  (xm4:PySem.W.mroIn K e4 (.ref e4)=some true)
  (u10:PySem.W.mroIn K e1 (.ref e0)=some true)
  (u20:PySem.W.mroIn K e2 (.ref e0)=some true)
  (u30:PySem.W.mroIn K e3 (.ref e0)=some true)
  (u44:PySem.W.mroIn K e4 (.ref e4)=some true)
  (s11:PySem.W.subIn K (.ref e1) (.ref e1)=some true)
  (s13:PySem.W.subIn K (.ref e1) (.ref e3)=some false)
  (ne13:¬ e1=e3)
  (s12:PySem.W.subIn K (.ref e1) (.ref e2)=some false)
  (ne12:¬ e1=e2)
  (s31:PySem.W.subIn K (.ref e3) (.ref e1)=some false)
  (ne31:¬ e3=e1)
  (s33:PySem.W.subIn K (.ref e3) (.ref e3)=some true)
  (s32:PySem.W.subIn K (.ref e3) (.ref e2)=some false)
  (ne32:¬ e3=e2)
  (s21:PySem.W.subIn K (.ref e2) (.ref e1)=some false)
  (ne21:¬ e2=e1)
  (s23:PySem.W.subIn K (.ref e2) (.ref e3)=some false)
  (ne23:¬ e2=e3)
  (s22:PySem.W.subIn K (.ref e2) (.ref e2)=some true)
  (s40:PySem.W.subIn K (.ref e4) (.ref e0)=some true)
  (z0:PySem.W.nsIn K mainGlobals "len" = some none)
  (z1:PySem.W.nsIn K mainGlobals "range" = some none)
  (z2:PySem.W.nsIn K mainGlobals "list" = some none)
  (z3:PySem.W.nsIn K mainGlobals "isinstance" = some none)
  (z4:PySem.W.nsIn K mainGlobals "sorted" = some none)
  (z5:PySem.W.nsIn K mainGlobals "min" = some none)
  (z6:PySem.W.nsIn K mainGlobals "max" = some none)
  (z7:PySem.W.nsIn K mainGlobals "all" = some none)
  (z8:PySem.W.nsIn K mainGlobals "int" = some none)
  (z9:PySem.W.nsIn K mainGlobals "bool" = some none)
  (z10:PySem.W.nsIn K mainGlobals "enumerate" = some none)
  (z11:PySem.W.nsIn K mainGlobals "zip" = some none)
  (zs1:PySem.W.nsIn K mainGlobals "set" = some none)
  (zs2:PySem.W.nsIn K mainGlobals "tuple" = some none)
  (ve:PySem.W.nsIn K mainGlobals "ValueError" = some none)
  (svr:PySem.W.subIn K (.ref e1) (.type "ValueError")=some true)
  (svd:PySem.W.subIn K (.ref e3) (.type "ValueError")=some true)
  (svn:PySem.W.subIn K (.ref e2) (.type "ValueError")=some true)
  (svt:PySem.W.subIn K (.ref e4) (.type "ValueError")=some true)
  (zr:PySem.W.nsIn K mainGlobals "MOST_ROOMS" = some (some (.int 60 tr)))
  (zd:PySem.W.nsIn K mainGlobals "MOST_DOORS" = some (some (.int 400 td)))
  : ∃ fd:FuncData,(∀ (s:Shared) (v:Value),BindsTo s fd ⟨[v],[]⟩ [("script",v)])/\∀ base:Heap,K.In base->base.Ns mainGlobals mg->FnOk l.prog w K mg base CX0 4 fa fd ["script"] (spLaw K):=by
 have e:=hfa.symm.trans (PySem.W.mg_of X G a9)
 cases e
 have T:Txt mg:=⟨PySem.W.mg_none_of X G z0,PySem.W.mg_none_of X G z1,PySem.W.mg_none_of X G z2,PySem.W.mg_none_of X G z3,PySem.W.mg_none_of X G z4,PySem.W.mg_none_of X G z5,PySem.W.mg_none_of X G z6,PySem.W.mg_none_of X G z7,PySem.W.mg_none_of X G z8,PySem.W.mg_none_of X G z9,PySem.W.mg_none_of X G z10,PySem.W.mg_none_of X G z11,⟨_,PySem.W.mg_of X G zr⟩,⟨_,PySem.W.mg_of X G zd⟩⟩
 have HC:HallC K mg cH:=⟨PySem.W.mg_of X G gH,⟨h1,h2,h3,h4⟩,h5,h6⟩
 have F0:=fun_mk (st:=sCell) l0 c0 k0
 have DA:DefAt K mg "_law_cell_at" sCell ["script", "k"] f0 _:=⟨F0,F0.binds (ps:=["script", "k"]) fun _ _ _ _ _ _ us hl=>match us,hl with | [_,_],_=>rfl,PySem.W.mg_of X G a0⟩
 have F1:=fun_mk (st:=sWhole) l1 c1 k1
 have DWh:DefAt K mg "_law_whole" sWhole ["found"] f1 _:=⟨F1,F1.binds (ps:=["found"]) fun _ _ _ _ _ _ us hl=>match us,hl with | [_],_=>rfl,PySem.W.mg_of X G a1⟩
 have F2:=fun_mk (st:=sNames) l2 c2 k2
 have DNa:DefAt K mg "_law_names" sNames ["cell"] f2 _:=⟨F2,F2.binds (ps:=["cell"]) fun _ _ _ _ _ _ us hl=>match us,hl with | [_],_=>rfl,PySem.W.mg_of X G a2⟩
 have F3:=fun_mk (st:=sDue) l3 c3 k3
 have DDu:DefAt K mg "_law_due" sDue ["doors", "size", "kind", "door"] f3 _:=⟨F3,F3.binds (ps:=["doors", "size", "kind", "door"]) fun _ _ _ _ _ _ us hl=>match us,hl with | [_,_,_,_],_=>rfl,PySem.W.mg_of X G a3⟩
 have F4:=fun_mk (st:=sDid) l4 c4 k4
 have DDi:DefAt K mg "_law_did" sDid ["hall", "kind", "door"] f4 _:=⟨F4,F4.binds (ps:=["hall", "kind", "door"]) fun _ _ _ _ _ _ us hl=>match us,hl with | [_,_,_],_=>rfl,PySem.W.mg_of X G a4⟩
 have F5:=fun_mk (st:=sSameN) l5 c5 k5
 have DSn:DefAt K mg "_law_same_numbers" sSameN ["found", "due"] f5 _:=⟨F5,F5.binds (ps:=["found", "due"]) fun _ _ _ _ _ _ us hl=>match us,hl with | [_,_],_=>rfl,PySem.W.mg_of X G a5⟩
 have F6:=fun_mk (st:=sDoorsTold) l6 c6 k6
 have DDt:DefAt K mg "_law_doors_told" sDoorsTold ["hall", "doors"] f6 _:=⟨F6,F6.binds (ps:=["hall", "doors"]) fun _ _ _ _ _ _ us hl=>match us,hl with | [_,_],_=>rfl,PySem.W.mg_of X G a6⟩
 have F7:=fun_mk (st:=sRoomTold) l7 c7 k7
 have DRt:DefAt K mg "_law_room_told" sRoomTold ["hall", "doors", "colours", "a", "name"] f7 _:=⟨F7,F7.binds (ps:=["hall", "doors", "colours", "a", "name"]) fun _ _ _ _ _ _ us hl=>match us,hl with | [_,_,_,_,_],_=>rfl,PySem.W.mg_of X G a7⟩
 have F8:=fun_mk (st:=sTooMany) l8 c8 k8
 have DTm:DefAt K mg "_law_too_many" sTooMany ["count"] f8 _:=⟨F8,F8.binds (ps:=["count"]) fun _ _ _ _ _ _ us hl=>match us,hl with | [_],_=>rfl,PySem.W.mg_of X G a8⟩
 have FJ:=fun_mk (st:=sInit) lJ cJ kJ
 have bJ:=FJ.binds (ps:=["self", "colours"]) fun _ _ _ _ _ _ us hl=>match us,hl with | [_,_],_=>rfl
 have M:Mk K cH fJ:=⟨mk,m0,nJ,kH⟩
 have F100:=fun_mk (st:=sSize) l100 c100 k100
 have MZ:MetAt K cH "size" "Hall.size" sSize ["self"] f100 _:=⟨F100,F100.binds (ps:=["self"]) fun _ _ _ _ _ _ us hl=>match us,hl with | [_],_=>rfl,⟨b100,n100,k100⟩⟩
 have F101:=fun_mk (st:=sCheck) l101 c101 k101
 have MK:MetAt K cH "check_room" "Hall.check_room" sCheck ["self", "a"] f101 _:=⟨F101,F101.binds (ps:=["self", "a"]) fun _ _ _ _ _ _ us hl=>match us,hl with | [_,_],_=>rfl,⟨b101,n101,k101⟩⟩
 have F102:=fun_mk (st:=sColour) l102 c102 k102
 have ML:MetAt K cH "colour" "Hall.colour" sColour ["self", "a"] f102 _:=⟨F102,F102.binds (ps:=["self", "a"]) fun _ _ _ _ _ _ us hl=>match us,hl with | [_,_],_=>rfl,⟨b102,n102,k102⟩⟩
 have F103:=fun_mk (st:=sPaint) l103 c103 k103
 have MP:MetAt K cH "paint" "Hall.paint" sPaint ["self", "a", "colour"] f103 _:=⟨F103,F103.binds (ps:=["self", "a", "colour"]) fun _ _ _ _ _ _ us hl=>match us,hl with | [_,_,_],_=>rfl,⟨b103,n103,k103⟩⟩
 have F104:=fun_mk (st:=sOpen) l104 c104 k104
 have MO:MetAt K cH "open_door" "Hall.open_door" sOpen ["self", "a", "name", "b"] f104 _:=⟨F104,F104.binds (ps:=["self", "a", "name", "b"]) fun _ _ _ _ _ _ us hl=>match us,hl with | [_,_,_,_],_=>rfl,⟨b104,n104,k104⟩⟩
 have F105:=fun_mk (st:=sShut) l105 c105 k105
 have MS:MetAt K cH "shut_door" "Hall.shut_door" sShut ["self", "a", "name", "b"] f105 _:=⟨F105,F105.binds (ps:=["self", "a", "name", "b"]) fun _ _ _ _ _ _ us hl=>match us,hl with | [_,_,_,_],_=>rfl,⟨b105,n105,k105⟩⟩
 have F106:=fun_mk (st:=sDoors) l106 c106 k106
 have MD:MetAt K cH "doors" "Hall.doors" sDoors ["self"] f106 _:=⟨F106,F106.binds (ps:=["self"]) fun _ _ _ _ _ _ us hl=>match us,hl with | [_],_=>rfl,⟨b106,n106,k106⟩⟩
 have F107:=fun_mk (st:=sNamesM) l107 c107 k107
 have MN:MetAt K cH "names" "Hall.names" sNamesM ["self", "a"] f107 _:=⟨F107,F107.binds (ps:=["self", "a"]) fun _ _ _ _ _ _ us hl=>match us,hl with | [_,_],_=>rfl,⟨b107,n107,k107⟩⟩
 have F108:=fun_mk (st:=sWays) l108 c108 k108
 have MW:MetAt K cH "ways" "Hall.ways" sWays ["self", "a", "name"] f108 _:=⟨F108,F108.binds (ps:=["self", "a", "name"]) fun _ _ _ _ _ _ us hl=>match us,hl with | [_,_,_],_=>rfl,⟨b108,n108,k108⟩⟩
 have X0:ExcAt K mg "HallError" e0:=⟨PySem.W.mg_of X G x0,⟨xe0⟩,⟨xc0,xg0,xn0⟩⟩
 have X1:ExcAt K mg "NoRoom" e1:=⟨PySem.W.mg_of X G x1,⟨xe1⟩,⟨xc1,xg1,xn1⟩⟩
 have X2:ExcAt K mg "NoDoor" e2:=⟨PySem.W.mg_of X G x2,⟨xe2⟩,⟨xc2,xg2,xn2⟩⟩
 have X3:ExcAt K mg "DoorThere" e3:=⟨PySem.W.mg_of X G x3,⟨xe3⟩,⟨xc3,xg3,xn3⟩⟩
 have X4:ExcAt K mg "TooMany" e4:=⟨PySem.W.mg_of X G x4,⟨xe4⟩,⟨xc4,xg4,xn4⟩⟩
 have T2:Txt2 mg:=⟨PySem.W.mg_none_of X G zs1,PySem.W.mg_none_of X G zs2⟩
 have XL:ExL K mg e0 e1 e2 e3 e4:=⟨X0,X1,X2,X3,X4,⟨u10⟩,⟨u20⟩,⟨u30⟩,⟨u44⟩,kit_ref xm1 xt1 s11 (fun _=>rfl),kit_ref xm3 xt3 s13 (fun z=>absurd z ne13),kit_ref xm2 xt2 s12 (fun z=>absurd z ne12),kit_ref xm1 xt1 s31 (fun z=>absurd z ne31),kit_ref xm3 xt3 s33 (fun _=>rfl),kit_ref xm2 xt2 s32 (fun z=>absurd z ne32),kit_ref xm1 xt1 s21 (fun z=>absurd z ne21),kit_ref xm3 xt3 s23 (fun z=>absurd z ne23),kit_ref xm2 xt2 s22 (fun _=>rfl),kit_ref xm0 xt0 s40 (fun _=>rfl),kit_ty svr rfl,kit_ty svd rfl,kit_ty svn rfl,kit_ty svt rfl,PySem.W.mg_none_of X G ve⟩
 have FL:=fun_mk (st:=sLaw) l9 c9 k9
 refine⟨PySem.W.fnOf "law" "law" (defArgs sLaw) (defBody sLaw) (defScope sLaw) .none kV9 dc9 pm9 an9 cd9 ct9,fun s v=>.of_eq rfl,fun base _ _=>?_⟩
 have GK:=ok_check (P:=l.prog) (w:=w) (base:=base) T HC X1 MK
 have GZ:=ok_size (P:=l.prog) (w:=w) (base:=base) T HC MZ
 have GL:=ok_colour (P:=l.prog) (w:=w) (base:=base) HC MK GK ML
 have GI:=ok_init (P:=l.prog) (w:=w) (base:=base) T HC X4 FJ
 have GO:=ok_open (P:=l.prog) (w:=w) (base:=base) T HC X3 X4 MK GK MO
 have GS:=ok_shut (P:=l.prog) (w:=w) (base:=base) T HC X2 MK GK MS
 have GD:=ok_doors (P:=l.prog) (w:=w) (base:=base) T HC MD
 have GPa:=ok_paint (P:=l.prog) (w:=w) (base:=base) HC MK GK MP
 have GNm:=ok_namesm (P:=l.prog) (w:=w) (base:=base) T T2 HC MK GK MN
 have GWy:=ok_waysm (P:=l.prog) (w:=w) (base:=base) T HC MK GK MW
 have GA:=ok_cell (P:=l.prog) (w:=w) (base:=base) T DA
 have GNa:=ok_names (P:=l.prog) (w:=w) (base:=base) T DNa
 have GWh:=ok_whole (P:=l.prog) (w:=w) (base:=base) T DWh
 have GSn:=ok_samen (P:=l.prog) (w:=w) (base:=base) T DWh GWh DSn
 have GDt:=ok_doorstold (P:=l.prog) (w:=w) (base:=base) T T2 HC MD GD DSn GSn DDt
 have GRt:=ok_roomtold (P:=l.prog) (w:=w) (base:=base) T T2 HC MN GNm MW GWy ML GL DSn GSn DWh GWh DRt
 have GDu:=ok_duem (P:=l.prog) (w:=w) (base:=base) T DDu
 have GDi:=ok_did (P:=l.prog) (w:=w) (base:=base) T XL HC MO GO MS GS DDi
 have GTm:=ok_toomany (P:=l.prog) (w:=w) (base:=base) T XL HC M bJ GI DTm
 exact ok_law (P:=l.prog) (w:=w) (base:=base) T HC M bJ GI DA GA DNa GNa MP GPa DDu GDu DDi GDi DDt GDt DRt GRt DTm GTm DWh GWh MZ GZ FL
theorem walk {l:PySem.W.OpenLaw} {q:Program} {loose:List Str} {XP:(Str->Option Value)->Heap->Prop} {YP:World->Heap->Prop} {d:DefRec} {K:Params->PySem.W.Frag} (hn:l.most=some 63) (hdf:d.params.defaults=[])
  (hY:∀ (w:World) (h:Heap),YP w h->(K w.params).In h)
  (F:∀ (w:World) (mg:Str->Option Value) (fa:Addr) (h:Heap),(K w.params).In h->h.Ns mainGlobals mg->mg d.name=some (.ref fa) ->
   ∃ fd:FuncData,(∀ (s:Shared) (u:Value),BindsTo s fd ⟨[u],[]⟩ [("script",u)])/\∀ base:Heap,(K w.params).In base->base.Ns mainGlobals mg->FnOk l.prog w (K w.params) mg base CX0 4 fa fd ["script"] (spLaw (K w.params))) :
  PySem.W.WalkO q loose XP YP l.row.toRowW d [] (fun f vs=>PySem.call f vs):=
 L2.walk_of (n:=63) (k:=4) (x := "script") (CX:=fun _=>CX0) (sp:=fun w=>spLaw (K w.params)) hn (by decide) hdf ⟨rfl,by decide,by decide⟩ hY F (fun _ _ a ns hl _ hS=>⟨a,ns,rfl,hS,hl,fun _=>rfl⟩) fun _ _ _ _ _ z=>z
end K01
namespace PySem.W.Fast
theorem tw12669086397210848550:True:=trivial
theorem tw2164229081981359847:True:=trivial
theorem tw8803063018613025715:True:=trivial
theorem tw4791155455221287204:True:=trivial
theorem tw13404077264545539385:True:=trivial
theorem tw3982179282842836342:True:=trivial
theorem tw3085957621682338245:True:=trivial
theorem tw7407038907416340421:True:=trivial
theorem tw577579445690105089:True:=trivial
theorem tw7798298310368393906:True:=trivial
theorem tw492346993117176227:True:=trivial
theorem tw2736919368393517789:True:=trivial
theorem tw15494780980499549661:True:=trivial
theorem tw9398528141614394905:True:=trivial
theorem tw4865508603305358114:True:=trivial
theorem tw13526413905701643847:True:=trivial
theorem tw7281078125389964882:True:=trivial
theorem tw4566143985425869248:True:=trivial
theorem tw9989825496161279240:True:=trivial
theorem tw10374676448320777708:True:=trivial
theorem tw2339988211880126377:True:=trivial
theorem tw15513977214200031981:True:=trivial
theorem tw3617757825106451562:True:=trivial
theorem tw6285515217941092547:True:=trivial
theorem tw16154771541997438771:True:=trivial
theorem tw1752145652448441999:True:=trivial
theorem tw16254388139500115280:True:=trivial
theorem tw15693845157198725077:True:=trivial
theorem tw15291368745628883135:True:=trivial
theorem tw8790104241547269864:True:=trivial
theorem tw11137897362260664546:True:=trivial
theorem tw13480799326712383292:True:=trivial
theorem tw3854365842602937690:True:=trivial
theorem tw1318948195205265199:True:=trivial
theorem tw10102842343295650196:True:=trivial
theorem tw402032978157584412:True:=trivial
theorem tw11568073276605407927:True:=trivial
theorem tw7343129627433574843:True:=trivial
theorem tw1880123581646010561:True:=trivial
theorem tw11970406705049151138:True:=trivial
theorem tw12026184252054700519:True:=trivial
theorem tw15943950106015662520:True:=trivial
theorem tw9741093040967003372:True:=trivial
theorem tw9536709514824516675:True:=trivial
theorem tw7100232487723678312:True:=trivial
theorem tw17746379701926910055:True:=trivial
theorem tw12268271533891029546:True:=trivial
theorem tw4889841389218247260:True:=trivial
theorem tw5142603480024174782:True:=trivial
theorem tw1777190390968088994:True:=trivial
theorem tw4416007201479493316:True:=trivial
theorem tw5118999395736780766:True:=trivial
theorem tw10365708029061334018:True:=trivial
theorem tw14120336033114435111:True:=trivial
theorem tw14583854955589277009:True:=trivial
theorem tw952160100388045044:True:=trivial
theorem tw16894413914356894335:True:=trivial
theorem tw6647788302787083457:True:=trivial
theorem tw10285835938821032912:True:=trivial
theorem tw3438267725865503429:True:=trivial
theorem tw3330450390356560225:True:=trivial
theorem tw12325039813154964071:True:=trivial
theorem tw4576269933493264253:True:=trivial
theorem tw6924569555800692689:True:=trivial
theorem tw1017003255694224203:True:=trivial
theorem tw3054994439173669710:True:=trivial
theorem tw14386603101421350267:True:=trivial
theorem tw12094106530175139331:True:=trivial
theorem tw12073132684885455495:True:=trivial
theorem tw18188775742845046442:True:=trivial
theorem tw17331338699302196429:True:=trivial
theorem tw8825378584729639801:True:=trivial
theorem tw12067951976909882507:True:=trivial
theorem tw5700007654475683858:True:=trivial
theorem tw15780415217771924418:True:=trivial
theorem tw430169279939837769:True:=trivial
theorem tw16925636042990082629:True:=trivial
theorem tw14396419136735128862:True:=trivial
theorem tw5432086575194608885:True:=trivial
theorem tw3949408953288259516:True:=trivial
theorem tw6433040202243868765:True:=trivial
theorem tw15610150452819511911:True:=trivial
theorem tw13736232892596277375:True:=trivial
theorem tw13663075910004186297:True:=trivial
theorem tw13311996372082488106:True:=trivial
theorem tw7334482557201360860:True:=trivial
theorem tw13550136901085355365:True:=trivial
theorem tw13888951703074923794:True:=trivial
theorem tw17137483060734827203:True:=trivial
theorem tw15998692606775364180:True:=trivial
theorem tw9713432625480460811:True:=trivial
theorem tw2787548403044362243:True:=trivial
theorem tw11758935995482204877:True:=trivial
theorem tw3460467803783326261:True:=trivial
theorem tw2134930568940707657:True:=trivial
theorem tw18042164670950869817:True:=trivial
theorem tw3399816855406888085:True:=trivial
theorem tw11505880520903322609:True:=trivial
theorem tw12161209177441841714:True:=trivial
theorem tw2669204538534840213:True:=trivial
theorem tw3869761490538295574:True:=trivial
theorem tw5889743952713295540:True:=trivial
theorem tw18131738288964886300:True:=trivial
theorem tw12323312082378773983:True:=trivial
theorem tw9336331498875953220:True:=trivial
theorem tw4546923453781704776:True:=trivial
theorem tw2617745674814429673:True:=trivial
theorem tw14806571738294290227:True:=trivial
theorem tw15381820974085279932:True:=trivial
theorem tw12692710952832374846:True:=trivial
theorem tw7880181260061950983:True:=trivial
theorem tw9425288494434900796:True:=trivial
theorem tw15543816028885114580:True:=trivial
theorem tw16166106242787760290:True:=trivial
theorem tw15282829552718414447:True:=trivial
theorem tw13194466197237092782:True:=trivial
theorem tw10000998174056915233:True:=trivial
theorem tw15159886873520801023:True:=trivial
theorem tw4024434470351846269:True:=trivial
theorem tw9810602655046839581:True:=trivial
theorem tw3518419338660487873:True:=trivial
theorem tw11989355799615244972:True:=trivial
theorem tw14920549890518962502:True:=trivial
theorem tw6380155945454508850:True:=trivial
theorem tw15807193544520470568:True:=trivial
theorem tw1767077078561002340:True:=trivial
theorem tw8494204976185026677:True:=trivial
theorem tw15586285472106638836:True:=trivial
theorem tw11359198578273042697:True:=trivial
theorem tw8024663406512788060:True:=trivial
theorem tw14208312691216372324:True:=trivial
theorem tw12464405026946311838:True:=trivial
theorem tw10892752979099664221:True:=trivial
theorem tw16828121422724731537:True:=trivial
theorem tw11040189161455106188:True:=trivial
theorem tw9202850135847793257:True:=trivial
theorem tw10190903820448067995:True:=trivial
theorem tw15015788627910957384:True:=trivial
theorem tw18008019176677837608:True:=trivial
theorem tw5474784442483066632:True:=trivial
theorem tw8650459887865403988:True:=trivial
theorem tw7070483314516987223:True:=trivial
theorem tw14796734714745690661:True:=trivial
theorem tw813941854357719537:True:=trivial
theorem tw11185929111023819329:True:=trivial
theorem tw14647171451784762996:True:=trivial
theorem tw8694743207188997449:True:=trivial
theorem tw5898834558388594227:True:=trivial
theorem tw6711529909340825539:True:=trivial
theorem tw14429745244428456057:True:=trivial
theorem tw1565691993592698552:True:=trivial
theorem tw15677592859909193959:True:=trivial
theorem tw15621917154466987461:True:=trivial
theorem tw8849192054686608758:True:=trivial
theorem tw15188260956755417439:True:=trivial
theorem tw16655558694328989089:True:=trivial
theorem tw9755067527713488370:True:=trivial
theorem tw7118414680242405636:True:=trivial
theorem tw4761699595112903505:True:=trivial
theorem tw6593625037414315215:True:=trivial
theorem tw11266125320229189767:True:=trivial
theorem tw3032630478823882424:True:=trivial
theorem tw5757303740199667372:True:=trivial
theorem tw5589646413921859460:True:=trivial
theorem tw11201279219371441582:True:=trivial
theorem tw18087454509462366562:True:=trivial
theorem tw8458589441637085175:True:=trivial
theorem tw1589144774606858433:True:=trivial
theorem tw17017397022287070634:True:=trivial
theorem tw17593127783227160356:True:=trivial
theorem tw9266341131703683912:True:=trivial
theorem tw2237076679196724945:True:=trivial
theorem tw1439250494639238602:True:=trivial
theorem tw13788001112044484499:True:=trivial
theorem tw11807995061593032321:True:=trivial
theorem tw17667576074157912348:True:=trivial
theorem tw7124865268418658546:True:=trivial
theorem tw15710427568526954896:True:=trivial
theorem tw7011970151253497920:True:=trivial
theorem tw526902785633029796:True:=trivial
theorem tw3858582355643127592:True:=trivial
theorem tw3661313774744145557:True:=trivial
theorem tw10458234177267955068:True:=trivial
theorem tw8107482741396477923:True:=trivial
theorem tw6583208917338891371:True:=trivial
theorem tw10799944391114075962:True:=trivial
theorem tw15252795341411524410:True:=trivial
theorem tw14680800866537610894:True:=trivial
theorem tw6190067760929361243:True:=trivial
theorem tw16881379604532396642:True:=trivial
theorem tw1249637656865420578:True:=trivial
theorem tw9535998436884313869:True:=trivial
theorem tw4545526696923613385:True:=trivial
theorem tw9976527542980771477:True:=trivial
theorem tw16161152524652020031:True:=trivial
theorem tw18164361010308014148:True:=trivial
theorem tw4204878479975321462:True:=trivial
theorem tw6462140881118753548:True:=trivial
theorem tw4183177903395399994:True:=trivial
theorem tw10250053732324384986:True:=trivial
theorem tw14923430249699924371:True:=trivial
theorem tw9311239544196953326:True:=trivial
theorem tw17958120635331218448:True:=trivial
theorem tw16921253399694662891:True:=trivial
theorem tw5374027118873107099:True:=trivial
theorem tw11298682424489370199:True:=trivial
theorem tw15302706755514533866:True:=trivial
theorem tw16138797695768766239:True:=trivial
theorem tw3551613987540161765:True:=trivial
theorem tw13392519617978927360:True:=trivial
theorem tw10371586312242286333:True:=trivial
theorem tw16057763545311434478:True:=trivial
theorem tw7999117909240626929:True:=trivial
end PySem.W.Fast
open PySem PySem.W PyProof.Rows
theorem PySem.Challenge.cw_twinrooms_k01_doors_holds : PySem.Challenge.rw_twinrooms_k01_doors.Holds := by
 w_on; o_law; k_head; (case hw=>w_witness2)
 k_fill
 refine K01.walk (l:=PySem.Challenge.rw_twinrooms_k01_doors) rfl rfl (fun w h Y=>PySem.W.kIn_of Y) ?F
 case F=>
  intro w mg fa h KX G hmg
  refine' K01.all_mk KX G hmg ?gH ?a0 ?l0 ?c0 ?k0 ?a1 ?l1 ?c1 ?k1 ?a2 ?l2 ?c2 ?k2 ?a3 ?l3 ?c3 ?k3 ?a4 ?l4 ?c4 ?k4 ?a5 ?l5 ?c5 ?k5 ?a6 ?l6 ?c6 ?k6 ?a7 ?l7 ?c7 ?k7 ?a8 ?l8 ?c8 ?k8 ?a9 ?l9 ?c9 ?k9 ?m0 ?lJ ?cJ ?kJ ?nJ ?mk ?kH ?h1 ?h2 ?h3 ?h4 ?h5 ?h6 ?b100 ?l100 ?c100 ?k100 ?n100 ?b101 ?l101 ?c101 ?k101 ?n101 ?b102 ?l102 ?c102 ?k102 ?n102 ?b103 ?l103 ?c103 ?k103 ?n103 ?b104 ?l104 ?c104 ?k104 ?n104 ?b105 ?l105 ?c105 ?k105 ?n105 ?b106 ?l106 ?c106 ?k106 ?n106 ?b107 ?l107 ?c107 ?k107 ?n107 ?b108 ?l108 ?c108 ?k108 ?n108 ?x0 ?xe0 ?xc0 ?xg0 ?xn0 ?xt0 ?xm0 ?x1 ?xe1 ?xc1 ?xg1 ?xn1 ?xt1 ?xm1 ?x2 ?xe2 ?xc2 ?xg2 ?xn2 ?xt2 ?xm2 ?x3 ?xe3 ?xc3 ?xg3 ?xn3 ?xt3 ?xm3 ?x4 ?xe4 ?xc4 ?xg4 ?xn4 ?xt4 ?xm4 ?u10 ?u20 ?u30 ?u44 ?s11 ?s13 ?ne13 ?s12 ?ne12 ?s31 ?ne31 ?s33 ?s32 ?ne32 ?s21 ?ne21 ?s23 ?ne23 ?s22 ?s40 ?z0 ?z1 ?z2 ?z3 ?z4 ?z5 ?z6 ?z7 ?z8 ?z9 ?z10 ?z11 ?zs1 ?zs2 ?ve ?svr ?svd ?svn ?svt ?zr ?zd
  (case gH=>k_is)
  (case a0=>k_is)
  (case l0=>k_is)
  (case c0=>k_is)
  (case k0=>k_is)
  (case a1=>k_is)
  (case l1=>k_is)
  (case c1=>k_is)
  (case k1=>k_is)
  (case a2=>k_is)
  (case l2=>k_is)
  (case c2=>k_is)
  (case k2=>k_is)
  (case a3=>k_is)
  (case l3=>k_is)
  (case c3=>k_is)
  (case k3=>k_is)
  (case a4=>k_is)
  (case l4=>k_is)
  (case c4=>k_is)
  (case k4=>k_is)
  (case a5=>k_is)
  (case l5=>k_is)
  (case c5=>k_is)
  (case k5=>k_is)
  (case a6=>k_is)
  (case l6=>k_is)
  (case c6=>k_is)
  (case k6=>k_is)
  (case a7=>k_is)
  (case l7=>k_is)
  (case c7=>k_is)
  (case k7=>k_is)
  (case a8=>k_is)
  (case l8=>k_is)
  (case c8=>k_is)
  (case k8=>k_is)
  (case a9=>k_is)
  (case l9=>k_is)
  (case c9=>k_is)
  (case k9=>k_is)
  (case m0=>k_is)
  (case lJ=>k_is)
  (case cJ=>k_is)
  (case kJ=>k_is)
  (case nJ=>k_is)
  (case mk=>k_is)
  (case kH=>k_is)
  (case h1=>k_is)
  (case h2=>k_is)
  (case h3=>k_is)
  (case h4=>k_is)
  (case h5=>k_is)
  (case h6=>k_is)
  (case b100=>k_is)
  (case l100=>k_is)
  (case c100=>k_is)
  (case k100=>k_is)
  (case n100=>k_is)
  (case b101=>k_is)
  (case l101=>k_is)
  (case c101=>k_is)
  (case k101=>k_is)
  (case n101=>k_is)
  (case b102=>k_is)
  (case l102=>k_is)
  (case c102=>k_is)
  (case k102=>k_is)
  (case n102=>k_is)
  (case b103=>k_is)
  (case l103=>k_is)
  (case c103=>k_is)
  (case k103=>k_is)
  (case n103=>k_is)
  (case b104=>k_is)
  (case l104=>k_is)
  (case c104=>k_is)
  (case k104=>k_is)
  (case n104=>k_is)
  (case b105=>k_is)
  (case l105=>k_is)
  (case c105=>k_is)
  (case k105=>k_is)
  (case n105=>k_is)
  (case b106=>k_is)
  (case l106=>k_is)
  (case c106=>k_is)
  (case k106=>k_is)
  (case n106=>k_is)
  (case b107=>k_is)
  (case l107=>k_is)
  (case c107=>k_is)
  (case k107=>k_is)
  (case n107=>k_is)
  (case b108=>k_is)
  (case l108=>k_is)
  (case c108=>k_is)
  (case k108=>k_is)
  (case n108=>k_is)
  (case x0=>k_is)
  (case xe0=>k_exc)
  (case xc0=>k_is)
  (case xg0=>k_is)
  (case xn0=>k_is)
  (case xt0=>k_is)
  (case xm0=>k_is)
  (case x1=>k_is)
  (case xe1=>k_exc)
  (case xc1=>k_is)
  (case xg1=>k_is)
  (case xn1=>k_is)
  (case xt1=>k_is)
  (case xm1=>k_is)
  (case x2=>k_is)
  (case xe2=>k_exc)
  (case xc2=>k_is)
  (case xg2=>k_is)
  (case xn2=>k_is)
  (case xt2=>k_is)
  (case xm2=>k_is)
  (case x3=>k_is)
  (case xe3=>k_exc)
  (case xc3=>k_is)
  (case xg3=>k_is)
  (case xn3=>k_is)
  (case xt3=>k_is)
  (case xm3=>k_is)
  (case x4=>k_is)
  (case xe4=>k_exc)
  (case xc4=>k_is)
  (case xg4=>k_is)
  (case xn4=>k_is)
  (case xt4=>k_is)
  (case xm4=>k_is)
  (case u10=>k_is)
  (case u20=>k_is)
  (case u30=>k_is)
  (case u44=>k_is)
  (case s11=>k_is)
  (case s13=>k_is)
  (case ne13=>decide)
  (case s12=>k_is)
  (case ne12=>decide)
  (case s31=>k_is)
  (case ne31=>decide)
  (case s33=>k_is)
  (case s32=>k_is)
  (case ne32=>decide)
  (case s21=>k_is)
  (case ne21=>decide)
  (case s23=>k_is)
  (case ne23=>decide)
  (case s22=>k_is)
  (case s40=>k_is)
  (case z0=>k_is)
  (case z1=>k_is)
  (case z2=>k_is)
  (case z3=>k_is)
  (case z4=>k_is)
  (case z5=>k_is)
  (case z6=>k_is)
  (case z7=>k_is)
  (case z8=>k_is)
  (case z9=>k_is)
  (case z10=>k_is)
  (case z11=>k_is)
  (case zs1=>k_is)
  (case zs2=>k_is)
  (case ve=>k_is)
  (case svr=>k_is)
  (case svd=>k_is)
  (case svn=>k_is)
  (case svt=>k_is)
  (case zr=>k_is)
  (case zd=>k_is)
