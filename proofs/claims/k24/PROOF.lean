import PyProof.Rows.All
import Wide.All
import OpenK.AllK
import Wide.FinOn
import Lean
import PyProof.EqAt
import PyProof.EqKinds
import PyProof.TupleCall
import PyProof.ZipIter
import PyProof.TupleIter
import PyProof.WalksMore
import KE.KWords
import PyProof.MinMaxWalk
import PyProof.SeqI3
import PyProof.MaxThree
import PyProof.AttrMissHeap
import PyProof.DictList
import PyProof.DictIter
import KE.KDictOf
import KE.KDictList
import PyProof.Rows.CallKwBuiltin
import PyProof.Rows.Range3
import PyProof.Rows.StrNews2
import PyProof.StrLawsIdx
import PyProof.StrBlockI
import KE.KRevSl
import PyProof.AutoListH
import PyProof.DictWalks
import PyProof.Draws
import PyProof.EnumMake
import PyProof.NeKinds
import PyProof.Rows.SetFrom
import KE.KSortTup
import PyProof.StrBlock2
import PyProof.DictItems
import KE.KPairComp
import PyProof.Rows.SumAny
import PyProof.ListStr
import PyProof.DictValues
import OpenK.KRaise
import PyProof.StationsW
import PyProof.ExcClass2
import OpenK.KOwn
import PyProof.Rows.FStr
import PyProof.NsDelKeeps
import PyProof.RulesAs
import KE.KIsNot
import PyProof.ExcArgsOwn
import PyProof.ExcAttrAll.ValueError
import PyProof.DictUpdate
import KE.KLam
import PyProof.ListRange
import PyProof.TupleOfSeq
import PyProof.SetRoads
import PyProof.MeetsSeq2
import PyProof.StrCalls2
import KE.KItemsList
import PySem.SetOps
import PyProof.TupleKey
import PyProof.SetKind
import PyProof.IsRules
import PyProof.DictKinds
import PySem.Challenge.RW_twainkeep_k24_first_refusal
set_option Elab.async false
set_option linter.all false
set_option maxRecDepth 100000
namespace L2
open PySem PySem.Spec PyProof.Rows
abbrev Key:=Sum Int Str
def wJ:Key→Value→Bool
 | .inl k,v=>Value.isInt k v
 | .inr x,v=>Value.isStrOf x v
def Np (w:World):Key→Int
 | .inl k=>hashInt k
 | .inr x=>hashStr w x
theorem cB:∀ {k:Key} {v:Value},wJ k v=true→(∃ i t,k=Sum.inl i∧v=Value.int i t)∨(∃ x t,k=Sum.inr x∧v=Value.str x t)
 | .inl i,v,h=>by
  obtain ⟨t,e⟩:=Value.isInt_shape (k:=i) (v:=v) h
  exact .inl ⟨i,t,rfl,e⟩
 | .inr x,v,h=>by
  obtain ⟨t,e⟩:=Value.isStrOf_shape (x:=x) (v:=v) h
  exact .inr ⟨x,t,rfl,e⟩
theorem xM (i:Int) (t:Tok):wJ (.inl i) (.int i t)=true:=by simp [wJ,Value.isInt]
theorem yV (x:Str) (t:Tok):wJ (.inr x) (.str x t)=true:=by simp [wJ,Value.isStrOf]
theorem Jk (a b:Int):decide ((Sum.inl a:Key)=Sum.inl b)=(a == b):=by
 by_cases e:a=b
 ·subst e; simp
 ·have h:¬ (Sum.inl a:Key)=Sum.inl b:=fun q=>e (Sum.inl.inj q)
  rw [decide_eq_false h]
  exact (beq_eq_false_iff_ne.mpr e).symm
theorem JV (a b:Str):decide ((Sum.inr a:Key)=Sum.inr b)=decide (a=b):=by
 by_cases e:a=b
 ·subst e; simp
 ·have h:¬ (Sum.inr a:Key)=Sum.inr b:=fun q=>e (Sum.inr.inj q)
  rw [decide_eq_false h,decide_eq_false e]
theorem HJ (a:Int) (b:Str):decide ((Sum.inl a:Key)=Sum.inr b)=false:=decide_eq_false (fun q=>nomatch q)
theorem Ia (a:Str) (b:Int):decide ((Sum.inr a:Key)=Sum.inl b)=false:=decide_eq_false (fun q=>nomatch q)
def cR (prog:Program) (w:World):PySem.KeyKind prog w Key where
 is:=wJ
 hash:=Np w
 inj:=fun v a b ha hb=>by
  rcases cB ha with ⟨i,t,rfl,rfl⟩ | ⟨x,t,rfl,rfl⟩
  ·rcases cB hb with ⟨j,u,rfl,e⟩ | ⟨y,u,rfl,e⟩
   ·injection e with e1 _; rw [e1]
   ·exact nomatch e
  ·rcases cB hb with ⟨j,u,rfl,e⟩ | ⟨y,u,rfl,e⟩
   ·exact nomatch e
   ·injection e with e1 _; rw [e1]
 byValue:=fun k v h=>by
  rcases cB h with ⟨i,t,rfl,rfl⟩ | ⟨x,t,rfl,rfl⟩ <;> rfl
 pyHash:=fun hv h=>by
  rcases cB hv with ⟨i,t,rfl,rfl⟩ | ⟨x,t,rfl,rfl⟩
  ·exact wpAny_pyHash_int h
  ·exact wpAny_pyHash_str h
 eqBool:=fun hu hv h=>by
  rcases cB hu with ⟨i,t,rfl,rfl⟩ | ⟨x,t,rfl,rfl⟩
  ·rcases cB hv with ⟨j,u,rfl,rfl⟩ | ⟨y,u,rfl,rfl⟩
   ·rw [Jk] at h; exact wpAny_eqBool_int h
   ·rw [HJ] at h; exact SeqAt.EqAt.int_str i t y u _ _ _ _ h
  ·rcases cB hv with ⟨j,u,rfl,rfl⟩ | ⟨y,u,rfl,rfl⟩
   ·rw [Ia] at h; exact SeqAt.EqAt.str_int x t j u _ _ _ _ h
   ·rw [JV] at h; exact wpAny_eqBool_str h
 «strs»:=fun k x t v h=>by
  rcases cB h with ⟨i,u,rfl,e⟩ | ⟨y,u,rfl,e⟩
  ·exact nomatch e
  ·injection e with e1 _
   subst e1
   cases v <;> rfl
theorem ux (prog:Program) (w:World) (i:Int) (t:Tok):(cR prog w).is (.inl i) (.int i t)=true:=xM i t
theorem tR (prog:Program) (w:World) (x:Str) (t:Tok):(cR prog w).is (.inr x) (.str x t)=true:=yV x t
end L2
namespace L2
open PySem PySem.Spec PyProof.Rows
inductive V where
 | non | bl (b:Bool) | int (i:Int) | str (x:Str) | byt (b:Array UInt8) | flt (b:UInt64) | ref (a:Addr) | ty (n:String)
 deriving DecidableEq
def RelV:V→Value→Prop
 | .non,u=>u=Value.none
 | .bl b,u=>u=Value.bool b
 | .int i,u=>∃ t,u=Value.int i t
 | .str x,u=>∃ t,u=Value.str x t
 | .byt b,u=>∃ t,u=Value.bytes b t
 | .flt b,u=>∃ t,u=Value.float b t
 | .ref a,u=>u=Value.ref a
 | .ty n,u=>u=Value.type n
abbrev Vals:List V→List Value→Prop:=Paired RelV
theorem Vals.length {xs:List V} {us:List Value} (r:Vals xs us):xs.length=us.length:=Paired.length r
theorem Vals.get:∀ {xs:List V} {us:List Value} {i:Nat} {x:V},Vals xs us→xs[i]?=some x→∃ u,us[i]?=some u∧RelV x u
 | _,_,_,_,.nil,e=>by simp at e
 | _,_,0,_,.cons r _,e=>by simp at e; subst e; exact ⟨_,rfl,r⟩
 | _,_,i+1,x,.cons _ t,e=>by
  obtain ⟨u,h1,h2⟩:=Vals.get (i:=i) (x:=x) t (by simpa using e)
  exact ⟨u,by simpa using h1,h2⟩
theorem Vals.set {x:V} {u:Value} (r:RelV x u):∀ {xs:List V} {us:List Value} (i:Nat),Vals xs us→Vals (xs.set i x) (us.set i u)
 | _,_,_,.nil=>.nil
 | _,_,0,.cons _ t=>.cons r t
 | _,_,i+1,.cons q t=>.cons q (Vals.set r i t)
theorem Vals.append:∀ {xs ys:List V} {us ws:List Value},Vals xs us→Vals ys ws→Vals (xs++ys) (us++ws)
 | _,_,_,_,.nil,s=>s
 | _,_,_,_,.cons r t,s=>.cons r (Vals.append t s)
theorem Vals.take:∀ {xs:List V} {us:List Value} (n:Nat),Vals xs us→Vals (xs.take n) (us.take n)
 | _,_,0,_=>.nil
 | _,_,_+1,.nil=>.nil
 | _,_,n+1,.cons r t=>.cons r (Vals.take n t)
theorem Vals.drop:∀ {xs:List V} {us:List Value} (n:Nat),Vals xs us→Vals (xs.drop n) (us.drop n)
 | _,_,0,r=>r
 | _,_,_+1,.nil=>.nil
 | _,_,n+1,.cons _ t=>Vals.drop n t
def xq:Option V→Option Value→Prop
 | some v,some u=>RelV v u
 | none,none=>True
 | _,_=>False
def KV {κ:Type}:List (κ × V)→List (κ × Value)→Prop:=Paired fun (p:κ × V) (q:κ × Value)=>p.1=q.1∧RelV p.2 q.2
def kV:Key→V
 | .inl i=>.int i
 | .inr x=>.str x
inductive HO where
 | lst (xs:List V)
 | tup (xs:List V)
 | dK (kvs:List (Key × V)) | dT (kvs:List (List Key × V))
 | set (S:Int→Bool) (n:Nat)
 | ins (C dx:Addr) (fs:List (Str × V))
 | own (x:Addr)
 | xd (fs:List (Str × V))
 | met (f x:Addr)
 | rng (lo hi:Int)
 | frz (o:Obj) (u:HO)
 | tbl (ps:Array Value)
 | ext (φ:Heap→Prop)
abbrev Hp:=Addr→Option HO
def upd (H:Hp) (a:Addr) (o:HO):Hp:=fun b=>if b=a then some o else H b
theorem ak {H:Hp} {a:Addr} {o:HO}:upd H a o a=some o:=by unfold upd; rw [if_pos rfl]
theorem aG {H:Hp} {a b:Addr} {o:HO} (h:b≠a):upd H a o b=H b:=by unfold upd; rw [if_neg h]
theorem gM {H:Hp} {a:Addr} {o u:HO}:upd (upd H a o) a u=upd H a u:=by
 funext b; unfold upd; split <;> rfl
theorem su {H:Hp} {a b:Addr} {o u:HO} (h:H a=some o) (h':H b=some u) (d:o≠u):a≠b:=by
 intro e; subst e; rw [h] at h'; exact d (Option.some.inj h')
theorem aD {H:Hp} {a b:Addr} {o:HO} (h:H a=some o) (h':H b=none):a≠b:=by
 intro e; subst e; rw [h] at h'; cases h'
section
variable (P:Program) (w:World)
def dZ (H:Hp) (h:Heap) (a:Addr):HO→Prop
 | .lst xs=>xs.length≤sizeLine∧∃ (its:List Value) (n:Nat),Vals xs its∧h.get? a=some { cls:=.type "list",data:=.seq its.toArray n }
 | .tup xs=>xs.length≤sizeLine∧∃ its:List Value,Vals xs its∧IsTup h a its.toArray
 | .dK kvs=>kvs.length≤sizeLine∧(a == sysModules)=false∧∃ vs,KV kvs vs∧h.DictOf (cR P w) a vs
 | .dT kvs=>kvs.length≤sizeLine∧(a == sysModules)=false∧∃ xs:List (List Key × Addr × Value),
   Paired (fun (p:List Key × V) (q:List Key × Addr × Value)=>p.1=q.1∧H q.2.1=some (.tup (p.1.map kV))∧RelV p.2 q.2.2) kvs xs ∧
   ∃ o es ep,h.get? a=some o∧o.ExactDict∧o.data=.dict es ep∧es.toList=xs.map (entryOfKey (tupleKind (cR P w)))∧(xs.map (·.1)).Nodup
 | .set S n=>h.SetOf (intKind P w) a S n
 | .ins C dx fs=>H dx=some (.own a)∧fs.length≤1000∧dx≠a∧h.get? a=some (PySem.W.instObj C dx) ∧
   ∃ mA,h.Ns1 dx mA∧(∀ f,xq (fs.lookup f) (mA f))∧PySem.Within mA (fs.map (·.1))
 | .own _=>∃ o,h.get? a=some o
 | .xd fs=>∃ mA,h.Ns1 a mA∧∀ f,xq (fs.lookup f) (mA f)
 | .rng lo hi=>∃ t u v,h.get? a=some { cls:=.type "range",data:=.fields #[.int lo t,.int hi u,.int 1 v] }
 | .frz o u=>h.get? a=some o∧dZ H h a u
 | .tbl ps=>h.get? a=some { cls:=.none,data:=.fields ps }
 | .met f x=>h.get? a=some (PySem.W.methodObj (.ref f) (.ref x))
 | .ext φ=>φ h∧(∃ o,h.get? a=some o)∧∀ h1 h2:Heap,φ h1→(∀ o,h1.get? a=some o→h2.get? a=some o)→φ h2
def HOk (H:Hp) (h:Heap):Prop:=∀ a o,H a=some o→dZ P w H h a o
end
section
variable {P:Program} {w:World} {H H':Hp} {h h':Heap} {a:Addr} {o:HO}
theorem dZ.lt (x:dZ P w H h a o):a < h.objs.size:=by
 cases o with
 | lst xs=>obtain ⟨_,_,_,_,e⟩:=x; exact Heap.lt_size e
 | tup xs=>obtain ⟨_,_,_,p⟩:=x; exact p.lt
 | dK kvs=>obtain ⟨_,_,_,_,o,_,_,e,_⟩:=x; exact Heap.lt_size e
 | dT kvs=>obtain ⟨_,_,_,_,o,_,_,e,_⟩:=x; exact Heap.lt_size e
 | set S n=>obtain ⟨o,_,_,_,e,_⟩:=x; exact Heap.lt_size e
 | ins C dx fs=>obtain ⟨_,_,_,e,_⟩:=x; exact Heap.lt_size e
 | own y=>obtain ⟨_,e⟩:=x; exact Heap.lt_size e
 | xd fs=>obtain ⟨_,⟨_,_,_,e,_⟩,_⟩:=x; exact Heap.lt_size e
 | rng lo hi=>obtain ⟨_,_,_,e⟩:=x; exact Heap.lt_size e
 | frz ob u=>obtain ⟨e,_⟩:=x; exact Heap.lt_size e
 | tbl ps=>exact Heap.lt_size (show h.get? a=some _ from x)
 | met f y=>exact Heap.lt_size (show h.get? a=some _ from x)
 | ext φ=>obtain ⟨_,⟨_,e⟩,_⟩:=x; exact Heap.lt_size e
theorem Paired.mapP {α β:Type} {F G:α→β→Prop}:∀ {l₁:List α} {l₂:List β},Paired F l₁ l₂→(∀ a b,F a b→G a b)→Paired G l₁ l₂
 | _,_,.nil,_=>.nil
 | _,_,.cons r t,f=>.cons (f _ _ r) (Paired.mapP t f)
theorem dZ.stay (x:dZ P w H h a o) (k:∀ b u,(b=a∨H b=some (.own a))→h.get? b=some u→h'.get? b=some u)
  (ho:∀ b,H b=some (.own a)→H' b=some (.own a)) (ht:∀ b xs,H b=some (.tup xs)→H' b=some (.tup xs)):dZ P w H' h' a o:=by
 induction o with
 | lst xs=>obtain ⟨z,its,n,r,e⟩:=x; exact ⟨z,its,n,r,k _ _ (.inl rfl) e⟩
 | tup xs=>obtain ⟨z,its,r,ob,e,c⟩:=x; exact ⟨z,its,r,ob,k _ _ (.inl rfl) e,c⟩
 | dK kvs=>obtain ⟨z,y,vs,r,ob,es,ep,e,c⟩:=x; exact ⟨z,y,vs,r,ob,es,ep,k _ _ (.inl rfl) e,c⟩
 | dT kvs =>
  obtain ⟨z,y,xs,r,ob,es,ep,e,c⟩:=x
  exact ⟨z,y,xs,Paired.mapP r fun p q z=>⟨z.1,ht _ _ z.2.1,z.2.2⟩,ob,es,ep,k _ _ (.inl rfl) e,c⟩
 | set S n=>obtain ⟨ob,es,ep,t,e,c⟩:=x; exact ⟨ob,es,ep,t,k _ _ (.inl rfl) e,c⟩
 | ins C dx fs =>
  obtain ⟨d,z,ne,e,mA,⟨od,es,ep,e2,c⟩,r⟩:=x
  exact ⟨ho _ d,z,ne,k _ _ (.inl rfl) e,mA,⟨od,es,ep,k _ _ (.inr d) e2,c⟩,r⟩
 | own y=>obtain ⟨ob,e⟩:=x; exact ⟨ob,k _ _ (.inl rfl) e⟩
 | xd fs=>obtain ⟨mA,⟨od,es,ep,e,c⟩,r⟩:=x; exact ⟨mA,⟨od,es,ep,k _ _ (.inl rfl) e,c⟩,r⟩
 | rng lo hi=>obtain ⟨t,u,v,e⟩:=x; exact ⟨t,u,v,k _ _ (.inl rfl) e⟩
 | frz ob u ih=>obtain ⟨e,q⟩:=x; exact ⟨k _ _ (.inl rfl) e,ih q⟩
 | tbl ps =>
  have e:h.get? a=some { cls:=.none,data:=.fields ps }:=x
  show h'.get? a=some { cls:=.none,data:=.fields ps }
  exact k a _ (.inl rfl) e
 | met f y =>
  have e:h.get? a=some (PySem.W.methodObj (.ref f) (.ref y)):=x
  show h'.get? a=some (PySem.W.methodObj (.ref f) (.ref y))
  exact k a _ (.inl rfl) e
 | ext φ=>obtain ⟨p,⟨o,e⟩,st⟩:=x; exact ⟨st _ _ p fun o q=>k _ _ (.inl rfl) q,⟨o,k _ _ (.inl rfl) e⟩,st⟩
theorem HOk.lt (x:HOk P w H h) (e:H a=some o):a < h.objs.size:=(x a o e).lt
theorem HOk.fresh (x:HOk P w H h) (e:h.objs.size≤a):H a=none:=by
 cases q:H a with
 | none=>rfl
 | some u=>exact absurd (Nat.lt_of_lt_of_le (x.lt q) e) (Nat.lt_irrefl _)
theorem HOk.kept (x:HOk P w H h) (k:∀ b u,h.get? b=some u→h'.get? b=some u):HOk P w H h':=fun a o e =>
 (x a o e).stay (fun b u _ q=>k b u q) (fun _ q=>q) fun _ _ q=>q
theorem HOk.laid (x:HOk P w H h) (k:∀ b u,h.get? b=some u→h'.get? b=some u) (hp:h.objs.size≤a) (new:dZ P w (upd H a o) h' a o):HOk P w (upd H a o) h':=fun b u e=>by
 have hn:=x.fresh hp
 by_cases hb:b=a
 ·subst hb; rw [ak] at e; cases e; exact new
 ·rw [aG hb] at e
  exact (x b u e).stay (fun c v _ q=>k c v q) (fun c q=>by rw [aG (aD q hn)]; exact q) fun c xs q=>by rw [aG (aD q hn)]; exact q
end
def Rd (H:Hp) (a:Addr) (u:HO):Prop:=H a=some u∨∃ o,H a=some (.frz o u)
theorem Rd.ok {P:Program} {w:World} {H:Hp} {h:Heap} {a:Addr} {u:HO} (r:Rd H a u) (x:HOk P w H h):dZ P w H h a u:=by
 rcases r with r | ⟨o,r⟩
 ·exact x a u r
 ·obtain ⟨_,q⟩:=x a _ r
  exact q
def Mut:Option HO→Prop
 | some (.lst _)=>True
 | some (.dK _)=>True
 | some (.dT _)=>True
 | some (.set _ _)=>True
 | some (.ins _ _ _)=>True
 | some (.ext _)=>True
 | _=>False
section
variable {P:Program} {w:World} {H:Hp} {h h':Heap} {x e:Addr} {o':HO}
theorem HOk.write (ok:HOk P w H h) (mu:Mut (H x)) (he:e=x∨H e=some (.own x)) (k:∀ b u,b≠e→h.get? b=some u→h'.get? b=some u) (heo:∃ u,h'.get? e=some u)
  (new:dZ P w (upd H x o') h' x o'):HOk P w (upd H x o') h':=fun b u q=>by
 have nown:∀ c y,H c=some (.own y)→c≠x:=fun c y r z=>by subst z; rw [r] at mu; exact mu
 have ntup:∀ c xs,H c=some (.tup xs)→c≠x:=fun c xs r z=>by subst z; rw [r] at mu; exact mu
 by_cases hb:b=x
 ·subst hb; rw [ak] at q; cases q; exact new
 ·rw [aG hb] at q
  by_cases hbe:b=e
  ·have q':H b=some (.own x):=by
    rcases he with z | z
    ·exact absurd (hbe.trans z) hb
    ·rw [hbe]; exact z
   rw [q] at q'; cases q'
   obtain ⟨v,hv⟩:=heo
   exact ⟨v,by rw [hbe]; exact hv⟩
  ·refine (ok b u q).stay (fun c v hc r=>k c v ?_ r) (fun c r=>by rw [aG (nown c b r)]; exact r) fun c xs r=>by rw [aG (ntup c xs r)]; exact r
   rcases hc with rfl | hc
   ·exact hbe
   ·rintro rfl
    rcases he with z | z
    ·exact nown c b hc z
    ·rw [hc] at z; cases z; exact hb rfl
end
structure Un (fs ex:List Addr) (H H':Hp) (h h':Heap):Prop where
 keep:∀ b o,h.get? b=some o→H b=none→b ∉ fs→b ∉ ex→h'.get? b=some o
 slot:∀ b o,h.get? b=some o→H b=none→b∈fs→b ∉ ex→∃ sl,h'.get? b=some { o with slots:=sl }
 free:∀ b o,h.get? b=some o→H b=none→b ∉ ex→H' b=none
 there:∀ b o,h.get? b=some o→b ∉ ex→∃ o',h'.get? b=some o'
 tups:∀ b xs,H b=some (.tup xs)→H' b=some (.tup xs)
 frzs:∀ b o u,H b=some (.frz o u)→H' b=some (.frz o u)
 tbls:∀ b ps,H b=some (.tbl ps)→∃ more,H' b=some (.tbl (ps++more))
section
variable {fs fs' ex ex':List Addr} {H H1 H2:Hp} {h h1 h2 h':Heap} {a x e:Addr} {o:HO}
theorem Un.any (u:Un fs ex H H1 h h1) {b:Addr} {ob:Obj} (q:h.get? b=some ob) (n:H b=none) (hx:b ∉ ex):∃ sl,h1.get? b=some { ob with slots:=sl }:=by
 by_cases hb:b∈fs
 ·exact u.slot b ob q n hb hx
 ·exact ⟨ob.slots,u.keep b ob q n hb hx⟩
theorem Un.trans (a:Un fs ex H H1 h h1) (b:Un fs ex H1 H2 h1 h2):Un fs ex H H2 h h2 where
 keep:=fun c ob q n hc hx=>b.keep c ob (a.keep c ob q n hc hx) (a.free c ob q n hx) hc hx
 slot:=fun c ob q n hc hx=>by
  obtain ⟨sl,e1⟩:=a.slot c ob q n hc hx
  obtain ⟨sl',e2⟩:=b.slot c _ e1 (a.free c ob q n hx) hc hx
  exact ⟨sl',e2⟩
 free:=fun c ob q n hx=>by
  obtain ⟨o',e1⟩:=a.there c ob q hx
  exact b.free c o' e1 (a.free c ob q n hx) hx
 there:=fun c ob q hx=>by
  obtain ⟨o',e1⟩:=a.there c ob q hx
  exact b.there c o' e1 hx
 tups:=fun c xs q=>b.tups c xs (a.tups c xs q)
 frzs:=fun c ob xs q=>b.frzs c ob xs (a.frzs c ob xs q)
 tbls:=fun c ps q=>by
  obtain ⟨m1,e1⟩:=a.tbls c ps q
  obtain ⟨m2,e2⟩:=b.tbls c _ e1
  exact ⟨m1++m2,by rw [e2,Array.append_assoc]⟩
theorem Un.kept (k:∀ b u,h.get? b=some u→h'.get? b=some u):Un fs ex H H h h' :=
 ⟨fun b ob q _ _ _=>k b ob q,fun b ob q _ _ _=>⟨ob.slots,k b ob q⟩,fun _ _ _ n _=>n,fun b ob q _=>⟨ob,k b ob q⟩,fun _ _ q=>q,fun _ _ _ q=>q,fun _ ps q=>⟨#[],by rw [q]; simp⟩⟩
theorem Un.refl:Un fs ex H H h h:=Un.kept fun _ _ q=>q
theorem Un.laid (k:∀ b u,h.get? b=some u→h'.get? b=some u) (hp:h.objs.size≤a) (hn:H a=none):Un fs ex H (upd H a o) h h' where
 keep:=fun b u q _ _ _=>k b u q
 slot:=fun b u q _ _ _=>⟨u.slots,k b u q⟩
 free:=fun b u q n _=>by rw [aG (Nat.ne_of_lt (Nat.lt_of_lt_of_le (Heap.lt_size q) hp))]; exact n
 there:=fun b u q _=>⟨u,k b u q⟩
 tups:=fun b xs q=>by rw [aG (aD q hn)]; exact q
 frzs:=fun b u xs q=>by rw [aG (aD q hn)]; exact q
 tbls:=fun b ps q=>⟨#[],by rw [aG (aD q hn),q]; simp⟩
theorem Un.write (mu:Mut (H x)) (he:e=x∨H e=some (.own x)) (k:∀ b u,b≠e→h.get? b=some u→h'.get? b=some u) (heo:∃ u,h'.get? e=some u):Un fs ex H (upd H x o) h h':=by
 have hx:∀ b,H b=none→b≠x:=fun b n z=>by subst z; rw [n] at mu; exact mu
 have hb:∀ b,H b=none→b≠e:=fun b n z=>by
  subst z
  rcases he with r | r
  ·exact hx b n r
  ·rw [n] at r; cases r
 have hm:∀ b u,H b=some u→¬ Mut (some u)→b≠x:=fun b u q nm z=>by subst z; rw [q] at mu; exact nm mu
 refine ⟨fun b u q n _ _=>k b u (hb b n) q,fun b u q n _ _=>⟨u.slots,k b u (hb b n) q⟩,fun b u q n _=>by rw [aG (hx b n)]; exact n,fun b u q _=>?_,
  fun b xs q=>by rw [aG (hm b _ q fun z=>z)]; exact q,fun b u xs q=>by rw [aG (hm b _ q fun z=>z)]; exact q,fun b ps q=>⟨#[],by rw [aG (hm b _ q fun z=>z),q]; simp⟩⟩
 by_cases hbe:b=e
 ·subst hbe; exact heo
 ·exact ⟨u,k b u hbe q⟩
theorem Un.mono (u:Un fs ex H H1 h h1) (hs:∀ b∈fs,b∈fs') (hx:∀ b∈ex,b∈ex'):Un fs' ex' H H1 h h1 :=
 ⟨fun b ob q n hb he=>u.keep b ob q n (fun z=>hb (hs b z)) fun z=>he (hx b z),fun _ _ q n _ he=>u.any q n fun z=>he (hx _ z),fun b ob q n he=>u.free b ob q n fun z=>he (hx b z),fun b ob q he=>u.there b ob q fun z=>he (hx b z),u.tups,u.frzs,u.tbls⟩
end
def trk (h:Heap) (H:Hp):List Addr:=(List.range h.objs.size).filter fun a=>(H a).isSome
def Dt (h:Heap) (H:Hp):Heap:=PySem.W.hideAll h (trk h H)
theorem yd (h:Heap) (H:Hp):(Dt h H).objs.size=h.objs.size:=PySem.W.hideAll_size _ _
theorem Dg {h:Heap} {H:Hp} {b:Addr} {o:Obj} (e:h.get? b=some o) (n:H b=none):(Dt h H).get? b=some o :=
 PySem.W.hideAll_get _ e fun hm=>by
  have q:(H b).isSome=true:=(List.mem_filter.mp hm).2
  rw [n] at q; simp at q
theorem FP {h:Heap} {H:Hp} {b:Addr} {o:Obj} (e:(Dt h H).get? b=some o):h.get? b=some o∧H b=none:=by
 have e':h.get? b=some o:=PySem.W.of_hideAll (trk h H) e
 refine ⟨e',?_⟩
 cases q:H b with
 | none=>rfl
 | some x =>
  have hm:b∈trk h H:=List.mem_filter.mpr ⟨List.mem_range.mpr (Heap.lt_size e'),by simp [q]⟩
  have z:(Dt h H).get? b=none:=PySem.W.hideAll_none (trk h H) hm
  rw [z] at e; cases e
end L2
namespace L2
open PySem PySem.Spec PyProof.Rows
structure Mod (K:PySem.W.Frag) (mg:Str→Option Value) (base:Heap):Prop where
 kin:K.In base
 glob:base.Ns mainGlobals mg
 blt:∃ mb,base.Ns builtinsNs mb∧∀ x:Str,x ≠ "__name__"→mb x=bootBuiltins x
 nolimit:base.NoLimit
structure Cx where
 prog:Program
 w:World
 K:PySem.W.Frag
 mg:Str→Option Value
 base:Heap
 A:Around
 N:List Str
 s₀:Shared
 H₀:Hp
 env:Env
 outer:List Env
 stack:List Env
 ex:List Addr
 fn:Str→Bool
 calm:Bool
 pn:List (Addr × Obj)
 xe:Value→Shared→Prop
def frs (l:List Env):List Addr:=l.filterMap (·.frame)
abbrev Cx.fs (X:Cx):List Addr:=frs X.outer
def Vis (sc:Scope) (x:Str):Prop:=sc.names.lookup x=some .local∨sc.names.lookup x=some .cell∨sc.names.lookup x=some .free
def Loc (sc:Scope) (x:Str):Prop:=sc.names.lookup x=some .local∨sc.names.lookup x=some .cell
def Look (env:Env) (h:Heap) (m:Str→Option Value) (x:Str) (u:Value):Prop :=
 (env.kindOf x=some .local∧m x=some u)∨((env.kindOf x=some .cell∨env.kindOf x=some .free)∧∃ c,env.cells.lookup x=some c∧h.IsCell c (some u))
structure Cx.Ok (X:Cx):Prop where
 mod:Mod X.K X.mg X.base
 kind:X.env.scope.kind=.function
 glob:X.env.globals=mainGlobals
 blt:X.env.builtins=builtinsNs
 above:X.s₀.heap.objs.size≤X.env.locals
 inj:∀ x y c,X.env.cells.lookup x=some c→X.env.cells.lookup y=some c→x=y
 has:∀ x,(X.env.kindOf x=some .cell∨X.env.kindOf x=some .free)→∃ c,X.env.cells.lookup x=some c
 cab:∀ x c,X.fn x=true→X.env.cells.lookup x=some c→X.s₀.heap.objs.size≤c
 hd:X.calm=true→X.A.handled=none
 frames:X.A.frames=some X.stack
 stk:X.stack=X.outer∨(X.stack=X.env :: X.outer∧X.env.frame=some X.env.locals)
 exf:∀ b∈X.ex,b≠X.env.locals∧∀ x c,X.env.cells.lookup x=some c→c≠b
 bs:∀ b o,X.base.get? b=some o→X.s₀.heap.get? b=some o∧X.H₀ b=none
 bsz:X.base.objs.size≤X.s₀.heap.objs.size
 noex:∀ b o,X.base.get? b=some o→b ∉ X.ex
 exfs:∀ b∈X.ex,b ∉ X.fs
 funs:X.s₀.heap.FunFrames X.base X.outer
 frf:∀ b∈X.fs,X.H₀ b=none
structure Inv (X:Cx) (pins:List (Addr × Obj)) (σ:List (Option V)) (H:Hp) (s:Shared):Prop where
 ok:X.Ok
 os:s.os=X.s₀.os
 bare:AllBare s.gens
 base:Un X.fs X.ex X.H₀ H X.s₀.heap s.heap
 loc:∃ m,s.heap.Ns X.env.locals m∧∀ (i:Nat) (x:Str) (v:V),X.N[i]?=some x→σ[i]?=some (some v)→Vis X.env.scope x→∃ u,RelV v u∧Look X.env s.heap m x u
 cell:∀ x c,X.env.cells.lookup x=some c→∃ v,s.heap.IsCell c v
 free:H X.env.locals=none
 freeC:∀ x c,X.env.cells.lookup x=some c→H c=none
 pin:∀ p∈X.pn++pins,s.heap.get? p.1=some p.2∧H p.1=none∧p.1≠X.env.locals∧p.1 ∉ X.fs∧∀ v,p.2.data≠.cell v
 hok:HOk X.prog X.w H s.heap
 len:σ.length=X.N.length
section
variable {X:Cx} {pins:List (Addr × Obj)} {σ:List (Option V)} {H H':Hp} {s:Shared} {h':Heap}
theorem Cx.Ok.nofr (ok:X.Ok) {b:Addr} {o:Obj} (e:X.base.get? b=some o):b ∉ X.fs:=fun hb=>by
 have:=(ok.funs.mem hb).1
 rw [e] at this; cases this
theorem Inv.bs (I:Inv X pins σ H s):∀ b o,X.base.get? b=some o→s.heap.get? b=some o∧H b=none:=fun b o e =>
 ⟨I.base.keep b o (I.ok.bs b o e).1 (I.ok.bs b o e).2 (I.ok.nofr e) (I.ok.noex b o e),I.base.free b o (I.ok.bs b o e).1 (I.ok.bs b o e).2 (I.ok.noex b o e)⟩
theorem Inv.bk (I:Inv X pins σ H s):∀ b o,X.base.get? b=some o→s.heap.get? b=some o:=fun b o e=>(I.bs b o e).1
theorem Inv.mod (I:Inv X pins σ H s):Mod X.K X.mg X.base:=I.ok.mod
theorem Inv.kIn (I:Inv X pins σ H s):X.K.In s.heap:=I.ok.mod.kin.keeps I.bk
theorem Inv.nolimit (I:Inv X pins σ H s):s.heap.NoLimit:=I.ok.mod.nolimit.keeps I.bk
theorem Inv.fr (I:Inv X pins σ H s):∃ m,Fr X.base X.env.locals s.heap m :=
 let ⟨m,hn,_⟩:=I.loc
 ⟨m,hn,I.bk,Nat.le_trans I.ok.bsz I.ok.above⟩
theorem Inv.lt (I:Inv X pins σ H s):X.env.locals < s.heap.objs.size:=let ⟨_,hn,_⟩:=I.loc; hn.lt
theorem Inv.sz (I:Inv X pins σ H s):X.s₀.heap.objs.size≤s.heap.objs.size:=Nat.le_trans I.ok.above (Nat.le_of_lt I.lt)
theorem Inv.nofs (I:Inv X pins σ H s) {a:Addr} (h:s.heap.objs.size≤a):a ∉ X.fs:=fun hb=>by
 obtain ⟨_,o,ho,_⟩:=I.ok.funs.mem hb
 exact absurd (Nat.lt_of_lt_of_le (Heap.lt_size ho) (Nat.le_trans I.sz h)) (Nat.lt_irrefl _)
theorem Inv.cne (I:Inv X pins σ H s):∀ x c,X.env.cells.lookup x=some c→c≠X.env.locals:=fun x c e z=>by
 obtain ⟨v,o,ho,hd⟩:=I.cell x c e
 obtain ⟨m,⟨o',es,ep,ho',hd',_⟩,_⟩:=I.loc
 rw [z,ho'] at ho; cases ho; rw [hd'] at hd; cases hd
theorem Inv.funs (I:Inv X pins σ H s):s.heap.FunFrames X.base X.outer:=by
 have all:∀ (l:List Env),(∀ b∈frs l,b∈X.fs)→X.s₀.heap.FunFrames X.base l→s.heap.FunFrames X.base l:=by
  intro l
  induction l with
  | nil=>intro _ _; trivial
  | cons env r ih =>
   intro hs hl
   obtain ⟨hk,⟨L,o,hf,hn,ho,hd⟩,hr⟩:=hl
   have hL:L∈X.fs:=hs L (by unfold frs; rw [List.filterMap_cons,hf]; exact List.mem_cons_self)
   obtain ⟨sl,e⟩:=I.base.slot L o ho (I.ok.frf L hL) hL fun z=>I.ok.exfs L z hL
   exact ⟨hk,⟨L,_,hf,hn,e,hd⟩,ih (fun b hb=>hs b (by unfold frs; rw [List.filterMap_cons,hf]; exact List.mem_cons_of_mem _ hb)) hr⟩
 exact all X.outer (fun _ hb=>hb) I.ok.funs
theorem Inv.stack (I:Inv X pins σ H s):s.heap.FunFrames X.base X.stack:=by
 rcases I.ok.stk with e | ⟨e,hf⟩
 ·rw [e]; exact I.funs
 ·rw [e]
  obtain ⟨m,hn,_⟩:=I.loc
  refine .cons (by rw [I.ok.kind]; decide) hf hn ?_ I.funs
  exact Heap.get?_none_of_le (Nat.le_trans I.ok.bsz I.ok.above)
theorem Inv.stkSub (I:Inv X pins σ H s):∀ b∈frs X.stack,b∈X.env.locals :: X.fs:=fun b hb=>by
 rcases I.ok.stk with e | ⟨e,hf⟩
 ·rw [e] at hb; exact List.mem_cons_of_mem _ hb
 ·rw [e] at hb
  unfold frs at hb
  rw [List.filterMap_cons,hf] at hb
  exact hb
theorem Inv.stkFree (I:Inv X pins σ H s):∀ b∈frs X.stack,H b=none:=fun b hb=>by
 rcases List.mem_cons.mp (I.stkSub b hb) with e | hb
 ·rw [e]; exact I.free
 ·obtain ⟨_,o,ho,_⟩:=I.ok.funs.mem hb
  exact I.base.free b o ho (I.ok.frf b hb) fun z=>I.ok.exfs b z hb
theorem Inv.step {g':Array GenState} {t':Nat} {d':Drawn} {ch:List Addr} (I:Inv X pins σ H s)
  (hch:∀ b∈ch,(b∈X.ex∨X.s₀.heap.objs.size≤b)∧b≠X.env.locals∧(∀ x c,X.env.cells.lookup x=some c→c≠b)∧∀ p∈X.pn++pins,p.1≠b)
  (keep:∀ b o,b≠X.env.locals→b ∉ X.fs→b ∉ ch→s.heap.get? b=some o→H b=none→h'.get? b=some o)
  (slot:∀ b o,b≠X.env.locals→b∈X.fs→b ∉ ch→s.heap.get? b=some o→H b=none→∃ sl,h'.get? b=some { o with slots:=sl }) (free:∀ b o,b ∉ ch→s.heap.get? b=some o→H b=none→H' b=none)
  (there:∀ b o,b ∉ ch→s.heap.get? b=some o→∃ o',h'.get? b=some o')
  (tups:∀ b xs,H b=some (.tup xs)→H' b=some (.tup xs)) (frzs:∀ b o u,H b=some (.frz o u)→H' b=some (.frz o u)) (tbls:∀ b ps,H b=some (.tbl ps)→∃ more,H' b=some (.tbl (ps++more)))
  (ns:∀ m,s.heap.Ns X.env.locals m→h'.Ns X.env.locals m) (hok:HOk X.prog X.w H' h') (hg:AllBare g') :
  Inv X pins σ H' { s with heap:=h',gens:=g',drawn:=d',toks:=t' }:=by
 have neL:∀ b o,X.s₀.heap.get? b=some o→b≠X.env.locals:=fun b o e=>Nat.ne_of_lt (Nat.lt_of_lt_of_le (Heap.lt_size e) I.ok.above)
 have neC:∀ b o,X.s₀.heap.get? b=some o→b ∉ X.ex→b ∉ ch:=fun b o e hx hb=>by
  rcases (hch b hb).1 with z | z
  ·exact hx z
  ·exact absurd (Nat.lt_of_lt_of_le (Heap.lt_size e) z) (Nat.lt_irrefl _)
 have cellK:∀ x c,X.env.cells.lookup x=some c→∀ v,s.heap.IsCell c v→h'.IsCell c v:=fun x c e v ⟨o,ho,hd⟩=>by
  have nch:c ∉ ch:=fun z=>(hch c z).2.2.1 x c e rfl
  by_cases hc:c∈X.fs
  ·obtain ⟨sl,q⟩:=slot c o (I.cne x c e) hc nch ho (I.freeC x c e)
   exact ⟨_,q,hd⟩
  ·exact ⟨o,keep c o (I.cne x c e) hc nch ho (I.freeC x c e),hd⟩
 refine ⟨I.ok,I.os,hg,⟨fun b o e n hb hx=>?_,fun b o e n hb hx=>?_,fun b o e n hx=>?_,fun b o e hx=>?_,fun b xs e=>tups b xs (I.base.tups b xs e),fun b o xs e=>frzs b o xs (I.base.frzs b o xs e),fun b ps e=>?_⟩,?_,fun x c e=>?_,?_,fun x c e=>?_,fun p hp=>?_,hok,I.len⟩
 ·exact keep b o (neL b o e) hb (neC b o e hx) (I.base.keep b o e n hb hx) (I.base.free b o e n hx)
 ·obtain ⟨sl,e1⟩:=I.base.slot b o e n hb hx
  obtain ⟨sl',e2⟩:=slot b _ (neL b o e) hb (neC b o e hx) e1 (I.base.free b o e n hx)
  exact ⟨sl',e2⟩
 ·obtain ⟨o',e1⟩:=I.base.there b o e hx
  exact free b o' (neC b o e hx) e1 (I.base.free b o e n hx)
 ·obtain ⟨o',e1⟩:=I.base.there b o e hx
  exact there b o' (neC b o e hx) e1
 ·obtain ⟨m1,e1⟩:=I.base.tbls b ps e
  obtain ⟨m2,e2⟩:=tbls b _ e1
  exact ⟨m1++m2,by rw [e2,Array.append_assoc]⟩
 ·obtain ⟨m,hn,hl⟩:=I.loc
  refine ⟨m,ns m hn,fun i x v e1 e2 e3=>?_⟩
  obtain ⟨u,r,l⟩:=hl i x v e1 e2 e3
  refine ⟨u,r,?_⟩
  rcases l with l | ⟨k,c,e,z⟩
  ·exact .inl l
  ·exact .inr ⟨k,c,e,cellK x c e _ z⟩
 ·obtain ⟨v,z⟩:=I.cell x c e
  exact ⟨v,cellK x c e v z⟩
 ·obtain ⟨m,⟨o,_,_,ho,_⟩,_⟩:=I.loc
  exact free _ o (fun z=>(hch _ z).2.1 rfl) ho I.free
 ·obtain ⟨v,o,ho,hd⟩:=I.cell x c e
  exact free c o (fun z=>(hch c z).2.2.1 x c e rfl) ho (I.freeC x c e)
 ·obtain ⟨e,n,ne,nf,d⟩:=I.pin p hp
  have nch:p.1 ∉ ch:=fun z=>(hch p.1 z).2.2.2 p hp rfl
  exact ⟨keep p.1 p.2 ne nf nch e n,free p.1 p.2 nch e n,ne,nf,d⟩
theorem Inv.un {t':Nat} (I:Inv X pins σ H s) (u:Un X.fs [] H H' s.heap h') (hok:HOk X.prog X.w H' h'):Inv X pins σ H' { s with heap:=h',toks:=t' }:=by
 obtain ⟨m,⟨o,es,ep,ho,r⟩,_⟩:=id I.loc
 obtain ⟨sl,hL⟩:=u.any ho I.free (by simp)
 exact I.step (g':=s.gens) (d':=s.drawn) (ch:=[]) (fun _ z=>nomatch z) (fun b o _ hb _ e n=>u.keep b o e n hb (by simp)) (fun b o _ hb _ e n=>u.slot b o e n hb (by simp)) (fun b o _ e n=>u.free b o e n (by simp)) (fun b o _ e=>u.there b o e (by simp)) u.tups u.frzs u.tbls (fun m' hm=>by
  obtain ⟨o',es',ep',ho',r'⟩:=hm
  rw [ho] at ho'; cases ho'
  exact ⟨_,es',ep',hL,r'⟩) hok I.bare
theorem Inv.call {g':Array GenState} {t':Nat} {d':Drawn} {ch:List Addr} (I:Inv X pins σ H s) (u:Un (frs X.stack) ch H H' s.heap h') (hok:HOk X.prog X.w H' h') (hg:AllBare g')
  (hch:∀ b∈ch,(b∈X.ex∨X.s₀.heap.objs.size≤b)∧b≠X.env.locals∧(∀ x c,X.env.cells.lookup x=some c→c≠b)∧∀ p∈X.pn++pins,p.1≠b) :
  Inv X pins σ H' { s with heap:=h',gens:=g',drawn:=d',toks:=t' }:=by
 obtain ⟨m,⟨o,es,ep,ho,r⟩,_⟩:=id I.loc
 obtain ⟨sl,hL⟩:=u.any ho I.free fun z=>(hch _ z).2.1 rfl
 exact I.step (ch:=ch) hch (fun b o hL hb hc e n=>u.keep b o e n (fun z=>(List.mem_cons.mp (I.stkSub b z)).elim hL hb) hc) (fun b o _ _ hc e n=>u.any e n hc) (fun b o hc e n=>u.free b o e n hc) (fun b o hc e=>u.there b o e hc) u.tups u.frzs u.tbls (fun m' hm=>by
  obtain ⟨o',es',ep',ho',r'⟩:=hm
  rw [ho] at ho'; cases ho'
  exact ⟨_,es',ep',hL,r'⟩) hok hg
theorem Inv.turned {t':Nat} {it:Addr} (I:Inv X pins σ H s) (k:∀ b o,b≠it→s.heap.get? b=some o→h'.get? b=some o) (hn:H it=none) (hL:it≠X.env.locals)
  (h1:it∈X.ex∨X.s₀.heap.objs.size≤it) (h2:∀ x c,X.env.cells.lookup x=some c→c≠it) (h3:∀ p∈X.pn++pins,p.1≠it):Inv X pins σ H { s with heap:=h',toks:=t' }:=by
 have nit:∀ b u,H b=some u→b≠it:=fun b u e z=>by rw [z,hn] at e; cases e
 refine I.step (g':=s.gens) (d':=s.drawn) (ch:=[it]) (fun b hb=>?_) (fun b o _ _ hc e _=>k b o (fun z=>hc (by simp [z])) e) (fun b o _ _ hc e _=>⟨o.slots,k b o (fun z=>hc (by simp [z])) e⟩) (fun _ _ _ _ n=>n)
  (fun b o hc e=>⟨o,k b o (fun z=>hc (by simp [z])) e⟩) (fun _ _ e=>e) (fun _ _ _ e=>e) (fun b ps e=>⟨#[],by rw [e]; simp⟩) (fun m hm=>?_) (fun b u e=>?_) I.bare
 ·have e:b=it:=by simpa using hb
  subst e
  exact ⟨h1,hL,h2,h3⟩
 ·obtain ⟨o,es,ep,ho,r⟩:=hm
  exact ⟨o,es,ep,k _ o (Ne.symm hL) ho,r⟩
 ·refine (I.hok b u e).stay (fun c v hc q=>k c v ?_ q) (fun _ q=>q) fun _ _ q=>q
  rcases hc with z | z
  ·rw [z]; exact nit b u e
  ·exact nit c _ z
theorem Inv.tok (I:Inv X pins σ H s) (t:Nat):Inv X pins σ H { s with toks:=t }:=I.un (h':=s.heap) (t':=t) Un.refl I.hok
theorem Inv.kept {t':Nat} (I:Inv X pins σ H s) (k:∀ b u,s.heap.get? b=some u→h'.get? b=some u):Inv X pins σ H { s with heap:=h',toks:=t' }:=I.un (Un.kept k) (I.hok.kept k)
theorem Inv.laid {a:Addr} {o:HO} {t':Nat} (I:Inv X pins σ H s) (k:∀ b u,s.heap.get? b=some u→h'.get? b=some u) (hp:s.heap.objs.size≤a) (new:dZ X.prog X.w (upd H a o) h' a o) :
  Inv X pins σ (upd H a o) { s with heap:=h',toks:=t' }:=I.un (Un.laid k hp (I.hok.fresh hp)) (I.hok.laid k hp new)
theorem Inv.write {x e:Addr} {o:HO} {t':Nat} (I:Inv X pins σ H s) (mu:Mut (H x)) (he:e=x∨H e=some (.own x)) (k:∀ b u,b≠e→s.heap.get? b=some u→h'.get? b=some u) (heo:∃ u,h'.get? e=some u)
  (new:dZ X.prog X.w (upd H x o) h' x o):Inv X pins σ (upd H x o) { s with heap:=h',toks:=t' }:=I.un (Un.write mu he k heo) (I.hok.write mu he k heo new)
theorem Inv.pins_of {pins':List (Addr × Obj)} (I:Inv X pins σ H s) (h:∀ p∈pins',s.heap.get? p.1=some p.2∧H p.1=none∧p.1≠X.env.locals∧p.1 ∉ X.fs∧∀ v,p.2.data≠.cell v):Inv X pins' σ H s :=
 ⟨I.ok,I.os,I.bare,I.base,I.loc,I.cell,I.free,I.freeC,fun p hp=>(List.mem_append.mp hp).elim (fun z=>I.pin p (List.mem_append_left _ z)) (h p),I.hok,I.len⟩
theorem pI {N:List Str} (hN:N.Nodup) {i j:Nat} {x:Str} (a:N[i]?=some x) (b:N[j]?=some x):i=j:=by
 obtain ⟨h1,e1⟩:=List.getElem?_eq_some_iff.mp a
 obtain ⟨h2,e2⟩:=List.getElem?_eq_some_iff.mp b
 exact (List.getElem_inj hN).mp (e1.trans e2.symm)
theorem qZ {M:Model} {A:Around} {E:Value→Shared→Prop} {i:Nat} {x:Str} {v:V} {u:Value} {Q:Unit→Shared→Prop} (I:Inv X pins σ H s) (hN:X.N.Nodup) (hi:X.N[i]?=some x) (hx:Loc X.env.scope x) (r:RelV v u)
  (h:∀ s',Inv X pins (σ.set i (some v)) H s'→(∃ a,Heap.SameBut a s.heap s'.heap∧(a=X.env.locals∨X.env.cells.lookup x=some a))→Q () s') (hf:X.fn x=true∨X.env.scope.names.lookup x=some .local:=by first | exact .inl rfl | exact .inr rfl | assumption):wpAny M A (storeName X.env x u) Q E s:=by
 obtain ⟨m,hn,hl⟩:=id I.loc
 have hcls:(X.env.scope.kind == .class || (X.env.scope.kind == .module && X.env.locals != X.env.globals))=false:=by rw [I.ok.kind]; rfl
 have hiσ:i < σ.length:=by rw [I.len]; exact (List.getElem?_eq_some_iff.mp hi).1
 have cne:=I.cne
 have tracked:∀ {a:Addr} {h':Heap},(∃ o,s.heap.get? a=some o∧H a=none)→Heap.SameBut a s.heap h'→HOk X.prog X.w H h':=fun {a h'} ha hs b ob e=>by
  obtain ⟨_,_,hfree⟩:=ha
  refine (I.hok b ob e).stay (fun c w' hc q=>(hs.2 c ?_).trans q) (fun _ q=>q) fun _ _ q=>q
  rintro rfl
  rcases hc with rfl | hc
  ·rw [hfree] at e; cases e
  ·rw [hfree] at hc; cases hc
 rcases hx with hk | hk
 ·refine wpAny_storeName_local hk hn (fun h' hn' hs=>?_) hcls
  obtain ⟨oL,_,_,hoL,_⟩:=id hn
  refine h _ ⟨I.ok,I.os,I.bare,⟨fun b o e n hb hx=>?_,fun b o e n hb hx=>?_,I.base.free,fun b o e hx=>?_,I.base.tups,I.base.frzs,I.base.tbls⟩,⟨_,hn',fun j y v' e1 e2 e3=>?_⟩,fun y c e=>?_,I.free,I.freeC,fun p hp=>?_,tracked ⟨oL,hoL,I.free⟩ hs,by simpa using I.len⟩ ⟨_,hs,.inl rfl⟩
  ·exact (hs.2 b (Nat.ne_of_lt (Nat.lt_of_lt_of_le (Heap.lt_size e) I.ok.above))).trans (I.base.keep b o e n hb hx)
  ·obtain ⟨sl,e1⟩:=I.base.slot b o e n hb hx
   exact ⟨sl,(hs.2 b (Nat.ne_of_lt (Nat.lt_of_lt_of_le (Heap.lt_size e) I.ok.above))).trans e1⟩
  ·obtain ⟨o',e1⟩:=I.base.there b o e hx
   exact ⟨o',(hs.2 b (Nat.ne_of_lt (Nat.lt_of_lt_of_le (Heap.lt_size e) I.ok.above))).trans e1⟩
  ·by_cases hj:j=i
   ·subst hj
    rw [hi] at e1; cases e1
    rw [List.getElem?_set_self hiσ] at e2
    cases e2
    exact ⟨u,r,.inl ⟨hk,by simp⟩⟩
   ·rw [List.getElem?_set_ne (Ne.symm hj)] at e2
    obtain ⟨u',r',q⟩:=hl j y v' e1 e2 e3
    refine ⟨u',r',?_⟩
    rcases q with ⟨k,e⟩ | ⟨k,c,e,z⟩
    ·refine .inl ⟨k,?_⟩
     have:y≠x:=fun e=>hj (pI hN e1 (e ▸ hi))
     simp [this,e]
    ·exact .inr ⟨k,c,e,z.sameBut hs (cne y c e)⟩
  ·obtain ⟨w',z⟩:=I.cell y c e
   exact ⟨w',z.sameBut hs (cne y c e)⟩
  ·obtain ⟨e,n,ne,nf,d⟩:=I.pin p hp
   exact ⟨(hs.2 p.1 ne).trans e,n,ne,nf,d⟩
 ·have hfn:X.fn x=true:=by
   rcases hf with z | z
   ·exact z
   ·rw [z] at hk; cases hk
  obtain ⟨c,hc⟩:=I.ok.has x (.inl hk)
  obtain ⟨w',z⟩:=I.cell x c hc
  refine wpAny_storeName_cell I.ok.kind hk hc z (fun h' hc' hs=>?_)
  obtain ⟨oc,hoc,hocd⟩:=id z
  refine h { s with heap:=h' } ⟨I.ok,I.os,I.bare,⟨fun b o e n hb hx=>?_,fun b o e n hb hx=>?_,I.base.free,fun b o e hx=>?_,I.base.tups,I.base.frzs,I.base.tbls⟩,⟨m,hn.sameBut hs (Ne.symm (cne x c hc)),fun j y v' e1 e2 e3=>?_⟩,fun y c' e=>?_,I.free,I.freeC,fun p hp=>?_,tracked ⟨oc,hoc,I.freeC x c hc⟩ hs,by simpa using I.len⟩ ⟨c,hs,.inr hc⟩
  ·exact (hs.2 b (Nat.ne_of_lt (Nat.lt_of_lt_of_le (Heap.lt_size e) (I.ok.cab x c hfn hc)))).trans (I.base.keep b o e n hb hx)
  ·obtain ⟨sl,e1⟩:=I.base.slot b o e n hb hx
   exact ⟨sl,(hs.2 b (Nat.ne_of_lt (Nat.lt_of_lt_of_le (Heap.lt_size e) (I.ok.cab x c hfn hc)))).trans e1⟩
  ·obtain ⟨o',e1⟩:=I.base.there b o e hx
   exact ⟨o',(hs.2 b (Nat.ne_of_lt (Nat.lt_of_lt_of_le (Heap.lt_size e) (I.ok.cab x c hfn hc)))).trans e1⟩
  ·by_cases hj:j=i
   ·subst hj
    rw [hi] at e1; cases e1
    rw [List.getElem?_set_self hiσ] at e2
    cases e2
    exact ⟨u,r,.inr ⟨.inl hk,c,hc,hc'⟩⟩
   ·rw [List.getElem?_set_ne (Ne.symm hj)] at e2
    obtain ⟨u',r',q⟩:=hl j y v' e1 e2 e3
    refine ⟨u',r',?_⟩
    rcases q with q | ⟨k,c',e,z'⟩
    ·exact .inl q
    ·refine .inr ⟨k,c',e,z'.sameBut hs ?_⟩
     rintro rfl
     exact hj (pI hN e1 (I.ok.inj _ _ _ e hc ▸ hi))
  ·by_cases hcc:c'=c
   ·subst hcc; exact ⟨_,hc'⟩
   ·obtain ⟨w2,z2⟩:=I.cell y c' e
    exact ⟨w2,z2.sameBut hs hcc⟩
  ·obtain ⟨e,n,ne,nf,d⟩:=I.pin p hp
   refine ⟨(hs.2 p.1 ?_).trans e,n,ne,nf,d⟩
   intro q
   rw [q,hoc] at e
   have q':oc=p.2:=Option.some.inj e
   exact d w' (by rw [← q']; exact hocd)
theorem lJ {M:Model} {A:Around} {E:Value→Shared→Prop} {i:Nat} {x:Str} {v:V} {u:Value} {Q:Unit→Shared→Prop} (I:Inv X pins σ H s) (hN:X.N.Nodup) (hi:X.N[i]?=some x) (hx:Loc X.env.scope x) (r:RelV v u)
  (h:∀ s',Inv X pins (σ.set i (some v)) H s'→Q () s') (hf:X.fn x=true∨X.env.scope.names.lookup x=some .local:=by first | exact .inl rfl | exact .inr rfl | assumption):wpAny M A (storeName X.env x u) Q E s :=
 qZ I hN hi hx r (fun s' I' _=>h s' I') hf
theorem Inv.call' {s':Shared} {ch:List Addr} (I:Inv X pins σ H s) (ho:s'.os=s.os) (u:Un (frs X.stack) ch H H' s.heap s'.heap) (hok:HOk X.prog X.w H' s'.heap) (hg:AllBare s'.gens)
  (hch:∀ b∈ch,(b∈X.ex∨X.s₀.heap.objs.size≤b)∧b≠X.env.locals∧(∀ x c,X.env.cells.lookup x=some c→c≠b)∧∀ p∈X.pn++pins,p.1≠b):Inv X pins σ H' s':=by
 obtain ⟨h',g',d',t',o'⟩:=s'
 have e:o'=s.os:=ho
 subst e
 exact I.call (g':=g') (t':=t') (d':=d') u hok hg hch
end
abbrev XK:=Value→Option Addr→Hp→Prop
abbrev St:=List (Option V)
abbrev VK:=V→Hp→Prop
abbrev TE:=St→Hp→VK→Prop
abbrev TT:=St→Hp→(Bool→Hp→Prop)→Prop
abbrev TA:=St→Hp→(List V→Hp→Prop)→Prop
structure Ends where
 nx:St→Hp→Prop
 rt:VK
 bk:St→Hp→Prop:=fun _ _=>False
 ct:St→Hp→Prop:=fun _ _=>False
abbrev TS:=Ends→St→Hp→Prop
def EP (X:Cx) (pins:List (Addr × Obj)) (σ:St) (Q:VK) (u:Value) (s':Shared):Prop:=∃ v H',Inv X pins σ H' s'∧RelV v u∧Q v H'
def TP (X:Cx) (pins:List (Addr × Obj)) (σ:St) (Q:Bool→Hp→Prop) (b:Bool) (s':Shared):Prop:=∃ H',Inv X pins σ H' s'∧Q b H'
def AP (X:Cx) (pins:List (Addr × Obj)) (σ:St) (Q:List V→Hp→Prop) (us:List Value) (s':Shared):Prop:=∃ vs H',Inv X pins σ H' s'∧Vals vs us∧Q vs H'
def SP (X:Cx) (pins:List (Addr × Obj)) (D:Ends) (f:Flow) (s':Shared):Prop :=
 match f with
 | .next=>∃ σ' H',Inv X pins σ' H' s'∧D.nx σ' H'
 | .brk=>∃ σ' H',Inv X pins σ' H' s'∧D.bk σ' H'
 | .cont=>∃ σ' H',Inv X pins σ' H' s'∧D.ct σ' H'
 | .ret u=>∃ v σ' H',Inv X pins σ' H' s'∧RelV v u∧D.rt v H'
def PE (X:Cx) (e:Expr) (t:TE):Prop :=
 ∀ (pins:List (Addr × Obj)) (s:Shared) (σ:St) (H:Hp) (Q:VK),Inv X pins σ H s→t σ H Q→wpAny (model X.prog X.w) X.A (eval e X.env) (EP X pins σ Q) X.xe s
def PT (X:Cx) (e:Expr) (t:TT):Prop :=
 ∀ (pins:List (Addr × Obj)) (s:Shared) (σ:St) (H:Hp) (Q:Bool→Hp→Prop),Inv X pins σ H s→t σ H Q→wpAny (model X.prog X.w) X.A (isTrue e X.env (eval e X.env)) (TP X pins σ Q) X.xe s
def PW (X:Cx) (e:Expr) (t:TT):Prop :=
 ∀ (whole:Sem Value) (pins:List (Addr × Obj)) (s:Shared) (σ:St) (H:Hp) (Q:Bool→Hp→Prop),Inv X pins σ H s→t σ H Q→wpAny (model X.prog X.w) X.A (isTrue e X.env whole) (TP X pins σ Q) X.xe s
theorem PW.pt {X:Cx} {e:Expr} {t:TT} (h:PW X e t):PT X e t:=h _
def PA (X:Cx) (es:List Expr) (t:TA):Prop :=
 ∀ (pos:Pos) (pins:List (Addr × Obj)) (s:Shared) (σ:St) (H:Hp) (Q:List V→Hp→Prop),Inv X pins σ H s→t σ H Q→wpAny (model X.prog X.w) X.A (spliced (backTo pos (starEach es X.env))) (AP X pins σ Q) X.xe s
def PS (X:Cx) (st:Stmt) (t:TS):Prop :=
 ∀ (pins:List (Addr × Obj)) (s:Shared) (σ:St) (H:Hp) (D:Ends),Inv X pins σ H s→t D σ H→wpAny (model X.prog X.w) X.A (exec st X.env) (SP X pins D) X.xe s
def PSs (X:Cx) (st:List Stmt) (t:TS):Prop :=
 ∀ (pins:List (Addr × Obj)) (s:Shared) (σ:St) (H:Hp) (D:Ends),Inv X pins σ H s→t D σ H→wpAny (model X.prog X.w) X.A (execs st X.env) (SP X pins D) X.xe s
theorem thn {α:Type} {t:Sem α} {Q Q':α→Shared→Prop} {M:Model} {A:Around} {E:Value→Shared→Prop} {s:Shared} (h:wpAny M A t Q E s) (hQ:∀ a s,Q a s→Q' a s):wpAny M A t Q' E s:=wpAny_mono h hQ fun _ _ x=>x
end L2
namespace L2
open PySem PySem.Spec PyProof.Rows
section
variable {X:Cx}
theorem bin {a b:Expr} {ta tb:TE} (ha:PE X a ta) (hb:PE X b tb) {pins:List (Addr × Obj)} {s:Shared} {σ:St} {H:Hp} {R:V→V→Hp→Prop} (I:Inv X pins σ H s) (h:ta σ H fun x H1=>tb σ H1 fun y H2=>R x y H2)
  {α:Type} {Q:α→Shared→Prop} {f:Value→Value→Sem α}
  (hf:∀ v u s2 x y H2,Inv X pins σ H2 s2→RelV x v→RelV y u→R x y H2→wpAny (model X.prog X.w) X.A (f v u) Q X.xe s2) :
  wpAny (model X.prog X.w) X.A (eval a X.env) (fun v s₁=>wpAny (model X.prog X.w) X.A (eval b X.env) (fun u s₂=>wpAny (model X.prog X.w) X.A (f v u) Q X.xe s₂) X.xe s₁) X.xe s:=by
 refine thn (ha pins s σ H _ I h) fun v s1 ⟨x,H1,I1,r1,q1⟩=>?_
 refine thn (hb pins s1 σ H1 _ I1 q1) fun u s2 ⟨y,H2,I2,r2,q2⟩=>?_
 exact hf v u s2 x y H2 I2 r1 r2 q2
def xr (i:Nat):TE:=fun σ H Q=>∃ v,σ[i]?=some (some v)∧Q v H
def tC (v:V):TE:=fun _ H Q=>Q v H
theorem Ie {i:Nat} {x:Str} {pos:Pos} (hN:X.N[i]?=some x) (hv:Vis X.env.scope x) (hd:(x == ("__debug__" : Str))=false:=by decide) (hcd:(x == ("__classdict__" : Str))=false:=by decide):PE X (.Name x pos) (xr i):=by
 intro pins s σ H Q I h
 obtain ⟨v,e,h⟩:=h
 obtain ⟨m,hn,hl⟩:=I.loc
 obtain ⟨u,r,l⟩:=hl i x v hN e hv
 have fin:EP X pins σ Q u s:=⟨v,H,I,r,h⟩
 rcases l with ⟨hk,hm⟩ | ⟨hk,c,hc,hcell⟩
 ·exact wpAny_Name (wpAny_loadName_local I.ok.kind hk hn hm fin) hd
 ·rcases hk with hk | hk
  ·exact wpAny_Name (wpAny_loadName_cell I.ok.kind hk hc hcell fin) hd
  ·exact wpAny_Name (wpAny_loadName_free I.ok.kind hk hc hcell fin hcd) hd
theorem aB {i j pos}:PE X (.Constant (.int i) j pos) (tC (.int i)):=fun _ _ _ H _ I h=>wpAny_Constant_int ⟨.int i,H,I.tok _,⟨_,rfl⟩,h⟩
theorem GZ {b j pos}:PE X (.Constant (.bool b) j pos) (tC (.bl b)):=fun _ _ _ H _ I h=>Constant_bool ⟨.bl b,H,I,rfl,h⟩
theorem jh {j pos}:PE X (.Constant .none j pos) (tC .non):=fun _ _ _ H _ I h=>Constant_none ⟨.non,H,I,rfl,h⟩
theorem aA {x j pos}:PE X (.Constant (.str x) j pos) (tC (.str x)):=fun _ _ _ H _ I h=>Calls.Constant_str ⟨.str x,H,I.tok _,⟨_,rfl⟩,h⟩
def Gl (X:Cx) (x:Str):Prop:=X.env.kindOf x=some .globalImplicit
theorem kj {E:Value→Shared→Prop} {pins:List (Addr × Obj)} {s:Shared} {σ:St} {H:Hp} {x:Str} {u:Value} {pos:Pos} {Q:Value→Shared→Prop} (I:Inv X pins σ H s) (hg:Gl X x) (hm:X.mg x=some u) (h:Q u s)
  (hd:(x == ("__debug__" : Str))=false:=by decide):wpAny (model X.prog X.w) X.A (eval (.Name x pos) X.env) Q E s :=
 Calls.Name_function_global I.ok.kind hg (Calls.loadGlobal_global (by rw [I.ok.glob]; exact I.mod.glob.keeps I.bk) hm h) hd
theorem uY {E:Value→Shared→Prop} {pins:List (Addr × Obj)} {s:Shared} {σ:St} {H:Hp} {x:Str} {u:Value} {pos:Pos} {Q:Value→Shared→Prop} (I:Inv X pins σ H s) (hg:Gl X x) (hm:X.mg x=none) (hv:bootBuiltins x=some u) (h:Q u s)
  (hn:x ≠ "__name__":=by decide) (hd:(x == ("__debug__" : Str))=false:=by decide):wpAny (model X.prog X.w) X.A (eval (.Name x pos) X.env) Q E s:=by
 obtain ⟨mb,h1,h2⟩:=I.mod.blt
 exact Calls.Name_function_global I.ok.kind hg (Calls.loadGlobal_builtin (by rw [I.ok.glob]; exact I.mod.glob.keeps I.bk) hm (by rw [I.ok.blt]; exact h1.keeps I.bk) ((h2 x hn).trans hv) h) hd
theorem gW {x:Str} {v:V} {u:Value} {pos:Pos} (hg:Gl X x) (hm:X.mg x=some u) (r:RelV v u) (hd:(x == ("__debug__" : Str))=false:=by decide):PE X (.Name x pos) (tC v) :=
 fun _ _ _ H _ I h=>kj I hg hm ⟨v,H,I,r,h⟩ hd
theorem Ht {x:Str} {v:V} {u:Value} {pos:Pos} (hg:Gl X x) (hm:X.mg x=none) (hv:bootBuiltins x=some u) (r:RelV v u) (hn:x ≠ "__name__":=by decide) (hd:(x == ("__debug__" : Str))=false:=by decide):PE X (.Name x pos) (tC v) :=
 fun _ _ _ H _ I h=>uY I hg hm hv ⟨v,H,I,r,h⟩ hn hd
variable {a b:Expr} {ta tb:TE} {pos:Pos}
def PC (X:Cx) (op:CmpOp) (a b:Expr) (t:TE):Prop :=
 ∀ (pins:List (Addr × Obj)) (s:Shared) (σ:St) (H:Hp) (Q:VK),Inv X pins σ H s→t σ H Q →
  wpAny (model X.prog X.w) X.A (eval a X.env) (fun v s₁=>wpAny (model X.prog X.w) X.A (eval b X.env) (fun u s₂=>wpAny (model X.prog X.w) X.A (compareOp op v u) (EP X pins σ Q) X.xe s₂) X.xe s₁) X.xe s
theorem Dr (b:Expr) {op:CmpOp} (h:op≠.In) (h2:op≠.NotIn):behindInMarks op b=false:=by
 have e1:(op == CmpOp.In)=false:=by cases op <;> first | rfl | exact absurd rfl h
 have e2:(op == CmpOp.NotIn)=false:=by cases op <;> first | rfl | exact absurd rfl h2
 cases b <;> simp [behindInMarks,e1,e2]
def tB (t:TE):TT:=fun σ H Q=>t σ H fun x H1=>∃ c,x=.bl c∧Q c H1
theorem LQ {op:CmpOp} {t:TE} (h:PC X op a b t) (h1:behindInMarks op b=false:=by first | exact Dr _ (by decide) (by decide) | rfl):PT X (.Compare a [op] [b] pos) (tB t):=by
 intro pins s σ H Q I hw
 refine wpAny_isTrue_Compare1 (thn (h pins s σ H _ I hw) fun v s1 h1=>thn h1 fun u s2 h2=>thn h2 fun c s3 ⟨x,H1,I1,r1,q1⟩=>?_) h1
 obtain ⟨d,rfl,q⟩:=q1
 cases r1
 exact wpAny_truthy_bool ⟨H1,I1,q⟩
theorem n6 {e:Expr} {t:TE} (h:PE X e t) (he:∀ whole,isTrue e X.env whole=(do let v ← whole; standAt e.pos; holding [v] (truthy v)):=by intro _; rfl):PT X e (tB t):=by
 intro pins s σ H Q I hw
 refine isTrue_plain (thn (h pins s σ H _ I hw) fun v s1 ⟨x,H1,I1,r1,q1⟩=>?_) (he _)
 obtain ⟨d,rfl,q⟩:=q1
 cases r1
 exact wpAny_truthy_bool ⟨H1,I1,q⟩
variable {tA tB':TT} {rest:List Expr}
def M9 (t u:TT):TT:=fun σ H Q=>t σ H fun c H1=>if c=true then u σ H1 Q else Q false H1
def tOr (t u:TT):TT:=fun σ H Q=>t σ H fun c H1=>if c=true then Q true H1 else u σ H1 Q
def Mx (t:TT):TT:=fun σ H Q=>t σ H fun c H1=>Q (!c) H1
theorem yM (ha:PT X a tA):PW X (.BoolOp .And [a] pos) tA:=by
 intro wh pins s σ H Q I h
 refine isTrue_and (thn (ha pins s σ H Q I h) fun c s1 e=>?_)
 cases c with
 | true=>exact isTrue_and_nil e
 | false=>exact e
theorem z6 (ha:PT X a tA):PW X (.BoolOp .Or [a] pos) tA:=by
 intro wh pins s σ H Q I h
 refine isTrue_or (thn (ha pins s σ H Q I h) fun c s1 e=>?_)
 cases c with
 | false=>exact isTrue_or_nil e
 | true=>exact e
theorem Ej (ha:PT X a tA) (hb:PW X (.BoolOp .And (b :: rest) pos) tB'):PW X (.BoolOp .And (a :: b :: rest) pos) (M9 tA tB'):=by
 intro wh pins s σ H Q I h
 refine isTrue_and (thn (ha pins s σ H _ I h) fun c s1 ⟨H1,I1,q1⟩=>?_)
 cases c with
 | true=>exact hb wh pins s1 σ H1 Q I1 q1
 | false=>exact ⟨H1,I1,q1⟩
theorem Fp (ha:PT X a tA) (hb:PW X (.BoolOp .Or (b :: rest) pos) tB'):PW X (.BoolOp .Or (a :: b :: rest) pos) (tOr tA tB'):=by
 intro wh pins s σ H Q I h
 refine isTrue_or (thn (ha pins s σ H _ I h) fun c s1 ⟨H1,I1,q1⟩=>?_)
 cases c with
 | true=>exact ⟨H1,I1,q1⟩
 | false=>exact hb wh pins s1 σ H1 Q I1 q1
theorem uZ (ha:PT X a tA):PT X (.UnaryOp .Not a pos) (Mx tA):=by
 intro pins s σ H Q I h
 exact isTrue_not (ha pins s σ H (fun c H1=>Q (!c) H1) I h)
def La (ta tb:TE):TE:=fun σ H Q=>ta σ H fun x H1=>∃ c,x=.bl c∧if c=true then tb σ H1 Q else Q (.bl false) H1
def KY (ta tb:TE):TE:=fun σ H Q=>ta σ H fun x H1=>∃ c,x=.bl c∧if c=true then Q (.bl true) H1 else tb σ H1 Q
theorem DG {op} {t:TE} (h:PE X a t):PE X (.BoolOp op [a] pos) t:=fun pins s σ H Q I hw=>BoolOp_one (h pins s σ H Q I hw)
theorem Jy (ha:PE X a ta) (hb:PE X (.BoolOp .And (b :: rest) pos) tb):PE X (.BoolOp .And (a :: b :: rest) pos) (La ta tb):=by
 intro pins s σ H Q I h
 refine BoolOp_and (thn (ha pins s σ H _ I h) fun v s1 ⟨x,H1,I1,r1,q1⟩=>?_)
 obtain ⟨c,rfl,q1⟩:=q1
 cases r1
 refine wpAny_truthy_bool ?_
 cases c with
 | true=>exact hb pins s1 σ H1 Q I1 q1
 | false=>exact ⟨.bl false,H1,I1,rfl,q1⟩
theorem J8 (ha:PE X a ta) (hb:PE X (.BoolOp .Or (b :: rest) pos) tb):PE X (.BoolOp .Or (a :: b :: rest) pos) (KY ta tb):=by
 intro pins s σ H Q I h
 refine BoolOp_or (thn (ha pins s σ H _ I h) fun v s1 ⟨x,H1,I1,r1,q1⟩=>?_)
 obtain ⟨c,rfl,q1⟩:=q1
 cases r1
 refine wpAny_truthy_bool ?_
 cases c with
 | false=>exact hb pins s1 σ H1 Q I1 q1
 | true=>exact ⟨.bl true,H1,I1,rfl,q1⟩
def tIf (t:TT) (ta tb:TE):TE:=fun σ H Q=>t σ H fun c H1=>if c=true then ta σ H1 Q else tb σ H1 Q
theorem vP {c:Expr} (hc:PT X c tA) (ha:PE X a ta) (hb:PE X b tb):PE X (.IfExp c a b pos) (tIf tA ta tb):=by
 intro pins s σ H Q I h
 refine wpAny_IfExp (thn (hc pins s σ H _ I h) fun d s1 ⟨H1,I1,q1⟩=>?_)
 cases d with
 | true=>exact ha pins s1 σ H1 Q I1 q1
 | false=>exact hb pins s1 σ H1 Q I1 q1
end
end L2
namespace L2
open PySem PySem.Spec PyProof.Rows
def SqL (K:PySem.W.Frag) (H:Hp) (a:Addr) (xs:List V):Prop :=
 Rd H a (.lst xs) ∨
  ∃ (o:Obj) (its:Array Value) (n:Nat),K.lookup a=some o∧o.cls=.type "list"∧o.dict=none∧o.data=.seq its n∧its.size≤sizeLine∧Vals xs its.toList
def SqT (K:PySem.W.Frag) (H:Hp) (a:Addr) (xs:List V):Prop :=
 Rd H a (.tup xs) ∨
  ∃ (o:Obj) (its:Array Value) (n:Nat),K.lookup a=some o∧o.cls=.type "tuple"∧o.data=.seq its n∧its.size≤sizeLine∧Vals xs its.toList
def Nt:Value→Option V
 | .none=>some .non
 | .bool b=>some (.bl b)
 | .int i _=>some (.int i)
 | .str x _=>some (.str x)
 | .bytes b _=>some (.byt b)
 | .float b _=>some (.flt b)
 | .ref a=>some (.ref a)
 | .type n=>some (.ty n)
 | _=>none
theorem RelV.abs {x:V} {u:Value} (r:RelV x u):Nt u=some x:=by
 cases x with
 | non=>cases r; rfl
 | bl _=>cases r; rfl
 | int _=>obtain ⟨t,rfl⟩:=r; rfl
 | str _=>obtain ⟨t,rfl⟩:=r; rfl
 | byt _=>obtain ⟨t,rfl⟩:=r; rfl
 | flt _=>obtain ⟨t,rfl⟩:=r; rfl
 | ref _=>cases r; rfl
 | ty _=>cases r; rfl
theorem RelV.inj {x y:V} {u:Value} (r:RelV x u) (q:RelV y u):x=y:=Option.some.inj (r.abs.symm.trans q.abs)
theorem Vals.inj:∀ {xs ys:List V} {us:List Value},Vals xs us→Vals ys us→xs=ys
 | _,_,_,.nil,.nil=>rfl
 | _,_,_,.cons r t,.cons r' t'=>by rw [r.inj r',Vals.inj t t']
section
variable {X:Cx} {pins:List (Addr × Obj)} {σ:St} {H:Hp} {s:Shared} {a:Addr} {xs ys:List V}
theorem SqL.of {K:PySem.W.Frag} (h:H a=some (.lst xs)):SqL K H a xs:=.inl (.inl h)
theorem SqT.of {K:PySem.W.Frag} (h:H a=some (.tup xs)):SqT K H a xs:=.inl (.inl h)
theorem Inv.list (I:Inv X pins σ H s) (h:SqL X.K H a xs):∃ its:List Value,Vals xs its∧PlainL s.heap a its.toArray∧xs.length≤sizeLine:=by
 rcases h with h | ⟨o,its,n,hk,hc,hd,hs,hz,r⟩
 ·obtain ⟨z,its,n,r,e⟩:=h.ok I.hok
  exact ⟨its,r,⟨_,n,e,rfl,rfl,rfl⟩,z⟩
 ·refine ⟨its.toList,r,⟨o,n,I.kIn a o hk,hc,hd,by simpa using hs⟩,?_⟩
  have e:=r.length
  simp only [Array.length_toList] at e
  omega
theorem Inv.tuple (I:Inv X pins σ H s) (h:SqT X.K H a xs):∃ its:List Value,Vals xs its∧IsTup s.heap a its.toArray∧xs.length≤sizeLine:=by
 rcases h with h | ⟨o,its,n,hk,hc,hs,hz,r⟩
 ·obtain ⟨z,its,r,p⟩:=h.ok I.hok
  exact ⟨its,r,p,z⟩
 ·refine ⟨its.toList,r,⟨o,I.kIn a o hk,hc,n,by simpa using hs⟩,?_⟩
  have e:=r.length
  simp only [Array.length_toList] at e
  omega
theorem Inv.list_inj (I:Inv X pins σ H s) (h:SqL X.K H a xs) (h':SqL X.K H a ys):xs=ys:=by
 obtain ⟨its,r,⟨o,n,e,_,_,d⟩,_⟩:=I.list h
 obtain ⟨its',r',⟨o',n',e',_,_,d'⟩,_⟩:=I.list h'
 rw [e] at e'; cases e'
 rw [d] at d'
 injection d' with d1 _
 have:its=its':=by simpa using congrArg Array.toList d1
 subst this
 exact r.inj r'
theorem Inv.tuple_inj (I:Inv X pins σ H s) (h:SqT X.K H a xs) (h':SqT X.K H a ys):xs=ys:=by
 obtain ⟨its,r,⟨o,e,_,n,d⟩,_⟩:=I.tuple h
 obtain ⟨its',r',⟨o',e',_,n',d'⟩,_⟩:=I.tuple h'
 rw [e] at e'; cases e'
 rw [d] at d'
 injection d' with d1 _
 have:its=its':=by simpa using congrArg Array.toList d1
 subst this
 exact r.inj r'
end
abbrev Cx.wish (X:Cx) (E:Value→Shared→Prop):Cx:={ X with xe:=E }
abbrev Cx.nox (X:Cx):Cx:=X.wish fun _ _=>False
theorem Cx.Ok.wish {X:Cx} (ok:X.Ok) (E:Value→Shared→Prop):(X.wish E).Ok :=
 ⟨ok.mod,ok.kind,ok.glob,ok.blt,ok.above,ok.inj,ok.has,ok.cab,ok.hd,ok.frames,ok.stk,ok.exf,ok.bs,ok.bsz,ok.noex,ok.exfs,ok.funs,ok.frf⟩
theorem Cx.Ok.unwish {X:Cx} {E:Value→Shared→Prop} (ok:(X.wish E).Ok):X.Ok :=
 ⟨ok.mod,ok.kind,ok.glob,ok.blt,ok.above,ok.inj,ok.has,ok.cab,ok.hd,ok.frames,ok.stk,ok.exf,ok.bs,ok.bsz,ok.noex,ok.exfs,ok.funs,ok.frf⟩
section
variable {X:Cx} {pins:List (Addr × Obj)} {σ:St} {H:Hp} {s:Shared} {E:Value→Shared→Prop}
theorem Inv.wish (I:Inv X pins σ H s) (E:Value→Shared→Prop):Inv (X.wish E) pins σ H s:=⟨I.ok.wish E,I.os,I.bare,I.base,I.loc,I.cell,I.free,I.freeC,I.pin,I.hok,I.len⟩
theorem Inv.unwish (I:Inv (X.wish E) pins σ H s):Inv X pins σ H s:=⟨I.ok.unwish,I.os,I.bare,I.base,I.loc,I.cell,I.free,I.freeC,I.pin,I.hok,I.len⟩
theorem SP.unwish {D:Ends} {f:Flow} {s':Shared} (h:SP (X.wish E) pins D f s'):SP X pins D f s':=by
 cases f with
 | next=>obtain ⟨σ',H',I,q⟩:=h; exact ⟨σ',H',I.unwish,q⟩
 | brk=>obtain ⟨σ',H',I,q⟩:=h; exact ⟨σ',H',I.unwish,q⟩
 | cont=>obtain ⟨σ',H',I,q⟩:=h; exact ⟨σ',H',I.unwish,q⟩
 | ret u=>obtain ⟨v,σ',H',I,r,q⟩:=h; exact ⟨v,σ',H',I.unwish,r,q⟩
theorem PSs.nox {st:List Stmt} {t:TS} (h:PSs X.nox st t):PSs X st t:=fun pins s σ H D I hw =>
 wpAny_mono (h pins s σ H D (I.wish _) hw) (fun _ _ q=>q.unwish) fun _ _ z=>False.elim z
end
section
variable {X:Cx} {st:Stmt} {rest:List Stmt} {t u:TS} {e:Expr} {te:TE} {pos:Pos}
def KD:TS:=fun D σ H=>D.nx σ H
def Ko (t u:TS):TS:=fun D σ H=>t { D with nx:=u D } σ H
theorem bN:PSs X [] KD:=fun _ _ σ H _ I h=>wpAny_execs_nil ⟨σ,H,I,h⟩
theorem ao (h1:PS X st t) (h2:PSs X rest u):PSs X (st :: rest) (Ko t u):=by
 intro pins s σ H D I h
 refine wpAny_execs_cons (thn (h1 pins s σ H { D with nx:=u D } I h) fun f s1 q=>?_)
 cases f with
 | next =>
  obtain ⟨σ',H',I',q⟩:=q
  exact h2 pins s1 σ' H' D I' q
 | ret v=>exact q
 | brk=>exact q
 | cont=>exact q
theorem aF (h1:PS X st t):PSs X [st] t:=by
 intro pins s σ H D I h
 refine wpAny_execs_cons (thn (h1 pins s σ H D I h) fun f s1 q=>?_)
 cases f with
 | next=>exact wpAny_execs_nil q
 | ret v=>exact q
 | brk=>exact q
 | cont=>exact q
theorem Inv.quiet {pins:List (Addr × Obj)} {σ:St} {H:Hp} {s:Shared} (I:Inv X pins σ H s):interactive X.env=false:=by simp [interactive,I.ok.kind]
def K8 (te:TE):TS:=fun D σ H=>te σ H fun _ H1=>D.nx σ H1
theorem cL (he:PE X e te) (hs:swapsWith e none pos.line X.env=pure false:=by rfl):PS X (.Expr e pos) (K8 te):=by
 intro pins s σ H D I h
 exact wpAny_Expr_any (thn (he pins s σ H _ I h) fun v s1 ⟨x,H1,I1,r1,q1⟩=>⟨σ,H1,I1,q1⟩) I.quiet hs
def Mz (te:TE):TS:=fun D σ H=>te σ H D.rt
theorem bx (he:PE X e te):PS X (.Return (some e) pos) (Mz te):=by
 intro pins s σ H D I h
 exact wpAny_Return_some (thn (he pins s σ H _ I h) fun v s1 ⟨x,H1,I1,r1,q1⟩=>⟨x,σ,H1,I1,r1,q1⟩)
def Nh (c:TT) (t u:TS):TS:=fun D σ H=>c σ H fun b H1=>if b=true then t D σ H1 else u D σ H1
theorem dM {c:Expr} {a b:List Stmt} {tc:TT} (hc:PT X c tc) (ha:PSs X a t) (hb:PSs X b u):PS X (.If c a b pos) (Nh tc t u):=by
 intro pins s σ H D I h
 refine wpAny_If (thn (hc pins s σ H _ I h) fun d s1 ⟨H1,I1,q1⟩=>?_)
 cases d with
 | true=>exact ha pins s1 σ H1 D I1 q1
 | false=>exact hb pins s1 σ H1 D I1 q1
end
abbrev TG:=V→St→Hp→(St→Hp→Prop)→Prop
abbrev TGs:=List V→St→Hp→(St→Hp→Prop)→Prop
def PG (X:Cx) (target:Expr) (t:TG):Prop :=
 ∀ (pins:List (Addr × Obj)) (s:Shared) (σ:St) (H:Hp) (v:V) (u:Value) (Q:St→Hp→Prop),Inv X pins σ H s→RelV v u→t v σ H Q →
  wpAny (model X.prog X.w) X.A (assign target X.env u) (fun _ s'=>∃ σ' H',Inv X pins σ' H' s'∧Q σ' H') X.xe s
def PGs (X:Cx) (ts:List Expr) (t:TGs):Prop :=
 ∀ (pins:List (Addr × Obj)) (s:Shared) (σ:St) (H:Hp) (vs:List V) (us:List Value) (Q:St→Hp→Prop),Inv X pins σ H s→Vals vs us→t vs σ H Q →
  wpAny (model X.prog X.w) X.A (assignInOrder ((assignEach ts X.env).map (·.2)) us) (fun _ s'=>∃ σ' H',Inv X pins σ' H' s'∧Q σ' H') X.xe s
abbrev Ls:=V→V→V→Hp→(Hp→Prop)→Prop
def Mu (X:Cx) (t:Ls):Prop :=
 ∀ (pins:List (Addr × Obj)) (s:Shared) (σ:St) (H:Hp) (o i v:V) (ov iv u:Value) (Q:Hp→Prop),Inv X pins σ H s→RelV o ov→RelV i iv→RelV v u→t o i v H Q →
  wpAny (model X.prog X.w) X.A (setItem ov iv u) (fun _ s'=>∃ H',Inv X pins σ H' s'∧Q H') X.xe s
abbrev TIp:=V→V→Hp→VK→Prop
def PIp (X:Cx) (op:Operator) (t:TIp):Prop :=
 ∀ (pins:List (Addr × Obj)) (s:Shared) (σ:St) (H:Hp) (x y:V) (v u:Value) (Q:VK),Inv X pins σ H s→RelV x v→RelV y u→t x y H Q →
  wpAny (model X.prog X.w) X.A (inplaceOp op v u) (EP X pins σ Q) X.xe s
section
variable {X:Cx} {pos:Pos}
def qU (i:Nat):TG:=fun v σ H Q=>Q (σ.set i (some v)) H
theorem aU {i:Nat} {x:Str} (hN:X.N.Nodup) (hi:X.N[i]?=some x) (hx:Loc X.env.scope x) (hf:X.fn x=true∨X.env.scope.names.lookup x=some .local:=by first | exact .inl rfl | exact .inr rfl | assumption):PG X (.Name x pos) (qU i):=by
 intro pins s σ H v u Q I r h
 exact wpAny_assign_Name (lJ I hN hi hx r (fun s' I'=>⟨_,H,I',h⟩) hf)
def Mv:TGs:=fun vs σ H Q=>vs=[]∧Q σ H
def Gd (t:TG) (u:TGs):TGs:=fun vs σ H Q=>∃ v r,vs=v :: r∧t v σ H fun σ' H'=>u r σ' H' Q
theorem pX:PGs X [] Mv:=by
 intro pins s σ H vs us Q I r h
 obtain ⟨e,h⟩:=h
 subst e
 cases r
 exact assignInOrder_nil ⟨σ,H,I,h⟩
theorem eY {e:Expr} {es:List Expr} {t:TG} {u:TGs} (h1:PG X e t) (h2:PGs X es u)
  (hs:(assignEach (e :: es) X.env).map (·.2)=assign e X.env :: (assignEach es X.env).map (·.2):=by rfl):PGs X (e :: es) (Gd t u):=by
 intro pins s σ H vs us Q I r h
 obtain ⟨v,vr,e1,h⟩:=h
 subst e1
 cases r with
 | cons r rr =>
  rw [hs]
  refine assignInOrder_cons (thn (h1 pins s σ H _ _ _ I r h) fun _ s1 ⟨σ1,H1,I1,q1⟩=>?_)
  exact h2 pins s1 σ1 H1 _ _ Q I1 rr q1
def Mj (K:PySem.W.Frag) (n:Nat) (t:TGs):TG:=fun v σ H Q=>∃ a xs,v=.ref a∧SqT K H a xs∧xs.length=n∧t xs σ H Q
theorem uV {es:List Expr} {k:Nat} {t:TGs} {n:Nat} (hc:X.calm=true) (h:PGs X es t)
  (hn:(assignEach es X.env).length=n:=by rfl) (hst:(assignEach es X.env).findIdx? (·.1)=none:=by rfl):PG X (.Tuple es k pos) (Mj X.K n t):=by
 intro pins s σ H v u Q I r hw
 obtain ⟨a,xs,e1,hq,hl,hw⟩:=hw
 subst e1
 cases r
 obtain ⟨its,rv,ht,hz⟩:=I.tuple hq
 refine assign_Tuple_tuple (I.ok.hd hc) ht (by simp [hn,← hl,rv.length]) hst fun h' hx=>?_
 have I1:Inv X pins σ H { s with heap:=h' }:=I.kept (t':=s.toks) fun b o e=>hx b o (Nat.ne_of_lt (Heap.lt_size e)) e
 exact h pins _ σ H xs _ Q I1 (by simpa using rv) hw
def Nj (to ti:TE) (t:Ls):TG:=fun v σ H Q=>to σ H fun o H1=>ti σ H1 fun i H2=>t o i v H2 fun H3=>Q σ H3
theorem Et {o i:Expr} {to ti:TE} {t:Ls} (ho:PE X o to) (hi:PE X i ti) (hs:Mu X t)
  (ha:∀ v,assign (.Subscript o i pos) X.env v=(do
   let ov ← holding [v] (eval o X.env)
   let iv ← holding [v,ov] (eval i X.env)
   standAt pos
   holding [v,ov,iv] (setItem ov iv v)
   release [v,ov,iv] []):=by intro _; rfl):PG X (.Subscript o i pos) (Nj to ti t):=by
 intro pins s σ H v u Q I r h
 rw [ha]
 refine wpAny_bind (wpAny_holding (thn (ho pins s σ H _ I h) fun ov s1 ⟨x,H1,I1,r1,q1⟩=>?_))
 refine wpAny_bind (wpAny_holding (thn (hi pins s1 σ H1 _ I1 q1) fun iv s2 ⟨y,H2,I2,r2,q2⟩=>?_))
 refine wpAny_bind (wpAny_standAt (wpAny_bind (wpAny_holding (thn (hs pins s2 σ H2 x y v ov iv u _ I2 r1 r2 r q2) fun _ s3 ⟨H3,I3,q3⟩=>?_))))
 exact wpAny_release ⟨σ,H3,I3,q3⟩
def JD (te:TE) (g:TG):TS:=fun D σ H=>te σ H fun x H1=>g x σ H1 D.nx
theorem Ek {tg e:Expr} {te:TE} {g:TG} (he:PE X e te) (hg:PG X tg g) (hs:swapsWithSole [tg] e pos.line X.env=pure false:=by rfl) (hw:swappedStores [tg] e X.env=pure none:=by rfl)
  (h1:(assignEach [tg] X.env).map (·.2)=[assign tg X.env]:=by rfl):PS X (.Assign [tg] e pos) (JD te g):=by
 intro pins s σ H D I h
 refine wpAny_Assign_stores (thn (he pins s σ H _ I h) fun v s1 ⟨x,H1,I1,r1,q1⟩=>?_) hs hw
 rw [h1]
 exact thn (hg pins s1 σ H1 x v _ I1 r1 q1) fun _ s2 q=>q
theorem aH {i:Nat} {x:Str} {e:Expr} {te:TE} {pos':Pos} (hN:X.N.Nodup) (hi:X.N[i]?=some x) (hx:Loc X.env.scope x) (he:PE X e te) (hs:swapsWith e (some (.Name x pos')) pos.line X.env=pure false:=by rfl) (hf:X.fn x=true∨X.env.scope.names.lookup x=some .local:=by first | exact .inl rfl | exact .inr rfl | assumption) :
  PS X (.Assign [.Name x pos'] e pos) (JD te (qU i)):=by
 intro pins s σ H D I h
 refine wpAny_Assign_Name (thn (he pins s σ H _ I h) fun v s1 ⟨y,H1,I1,r1,q1⟩=>?_) hs
 exact lJ I1 hN hi hx r1 (fun s2 I2=>⟨_,H1,I2,q1⟩) hf
def MJ (i:Nat) (te:TE) (ti:TIp):TS:=fun D σ H=>∃ x,σ[i]?=some (some x)∧te σ H fun y H1=>ti x y H1 fun z H2=>D.nx (σ.set i (some z)) H2
theorem cZ {i:Nat} {x:Str} {e:Expr} {te:TE} {op:Operator} {ti:TIp} {pos':Pos} (hN:X.N.Nodup) (hi:X.N[i]?=some x) (hx:Loc X.env.scope x) (he:PE X e te) (ho:PIp X op ti) (hf:X.fn x=true∨X.env.scope.names.lookup x=some .local:=by first | exact .inl rfl | exact .inr rfl | assumption) :
  PS X (.AugAssign (.Name x pos') op e pos) (MJ i te ti):=by
 intro pins s σ H D I h
 obtain ⟨v,e1,h⟩:=h
 obtain ⟨m,hn,hl⟩:=I.loc
 have vis:Vis X.env.scope x:=by rcases hx with k | k; exact .inl k; exact .inr (.inl k)
 obtain ⟨u,r,l⟩:=hl i x v hi e1 vis
 refine wpAny_AugAssign_Name ?_
 have go:wpAny (model X.prog X.w) X.A (eval e X.env) (fun w s₂=>wpAny (model X.prog X.w) X.A (inplaceOp op u w) (fun r s₃=>wpAny (model X.prog X.w) X.A (storeName X.env x r) (fun _=>SP X pins D .next) X.xe s₃) X.xe s₂) X.xe s:=by
  refine thn (he pins s σ H _ I h) fun w s1 ⟨y,H1,I1,r1,q1⟩=>?_
  refine thn (ho pins s1 σ H1 v y u w _ I1 r r1 q1) fun z s2 ⟨zv,H2,I2,r2,q2⟩=>?_
  exact lJ I2 hN hi hx r2 (fun s3 I3=>⟨_,H2,I3,q2⟩) hf
 rcases l with ⟨hk,hm⟩ | ⟨hk,c,hc,hcell⟩
 ·exact wpAny_loadName_local I.ok.kind hk hn hm go
 ·rcases hk with hk | hk
  ·exact wpAny_loadName_cell I.ok.kind hk hc hcell go
  ·rcases hx with k | k
   ·have:X.env.scope.names.lookup x=some .free:=hk
    rw [k] at this; cases this
   ·have:X.env.scope.names.lookup x=some .free:=hk
    rw [k] at this; cases this
end
section
variable {X:Cx} {pos:Pos}
end
structure It where
 go:Nat→Hp→Prop
 yld:Nat→Hp→V→Hp→Prop
 stop:Nat→Hp→Prop
def wC (X:Cx) (pins:List (Addr × Obj)) (H:Hp) (b:Addr):Prop :=
 H b=none∧b≠X.env.locals∧b ∉ X.fs∧(b∈X.ex∨X.s₀.heap.objs.size≤b)∧(∀ x c,X.env.cells.lookup x=some c→c≠b)∧∀ p∈X.pn++pins,p.1≠b
theorem Inv.fpOk {X:Cx} {pins:List (Addr × Obj)} {σ:St} {H H':Hp} {s:Shared} {b:Addr} (I:Inv X pins σ H s) (hb:s.heap.objs.size≤b) (hn:H' b=none):wC X pins H' b:=by
 refine ⟨hn,Nat.ne_of_gt (Nat.lt_of_lt_of_le I.lt hb),I.nofs hb,.inr (Nat.le_trans I.sz hb),fun x c e z=>?_,fun p hp z=>?_⟩
 ·obtain ⟨v,q⟩:=I.cell x c e
  exact absurd (Nat.lt_of_lt_of_le q.lt (by rw [z]; exact hb)) (Nat.lt_irrefl _)
 ·exact absurd (Nat.lt_of_lt_of_le (Heap.lt_size (I.pin p hp).1) (by rw [z]; exact hb)) (Nat.lt_irrefl _)
structure Turn (P:Program) (w:World) (K:PySem.W.Frag) (tg:Expr) (J:It) (fp:List Addr) (it:Addr) (tn:Nat→Heap→Prop):Prop where
 mem:it∈fp
 obj:∀ i h,tn i h→∀ b∈fp,∃ o,h.get? b=some o∧∀ v,o.data≠.cell v
 keep:∀ i h h',tn i h→(∀ b∈fp,∀ o,h.get? b=some o→h'.get? b=some o)→tn i h'
 item:∀ (X:Cx),X.prog=P→X.w=w→X.K=K→X.calm=true→∀ (i:Nat) (pins:List (Addr × Obj)) (s:Shared) (σ:St) (H:Hp) (E:Value→Shared→Prop),Inv X pins σ H s→(∀ b∈fp,wC X pins H b)→tn i s.heap→J.go i H →
  wpAny (model P w) X.A (pyNext (.ref it)) (fun r s1=>∃ u,r=some u ∧
   wpAny (model P w) X.A (letOwnedTupleGo tg (.ref it) u) (fun _ s2=>∃ x H',Inv X pins σ H' s2∧RelV x u∧J.yld i H x H'∧tn (i+1) s2.heap∧∀ b∈fp,H' b=none) E s1) E s
 done:∀ (X:Cx),X.prog=P→X.w=w→X.K=K→X.calm=true→∀ (i:Nat) (pins:List (Addr × Obj)) (s:Shared) (σ:St) (H:Hp) (E:Value→Shared→Prop),Inv X pins σ H s→(∀ b∈fp,wC X pins H b)→tn i s.heap→J.stop i H →
  wpAny (model P w) X.A (pyNext (.ref it)) (fun r s1=>r=none∧Inv X pins σ H s1) E s
 self:∀ (A:Around) (i:Nat) (s:Shared) (Q:Value→Shared→Prop) (E:Value→Shared→Prop),tn i s.heap→Q (.ref it) s→wpAny (model P w) A (pyIter (.ref it)) Q E s
abbrev TI:=St→Hp→(It→Hp→Prop)→Prop
def PIE (X:Cx) (pins:List (Addr × Obj)) (σ:St) (tg:Expr) (R:It→Hp→Prop) (itv:Value) (s2:Shared):Prop :=
 ∃ (it:Addr) (fp:List Addr) (tn:Nat→Heap→Prop) (J:It) (H':Hp),itv=.ref it∧Inv X pins σ H' s2∧Turn X.prog X.w X.K tg J fp it tn∧tn 0 s2.heap∧(∀ b∈fp,wC X pins H' b)∧R J H'
def PI (X:Cx) (tg iter:Expr) (wi:TI):Prop :=
 ∀ (pins:List (Addr × Obj)) (s:Shared) (σ:St) (H:Hp) (R:It→Hp→Prop),Inv X pins σ H s→wi σ H R →
  wpAny (model X.prog X.w) X.A (eval iter X.env) (fun v s1=>wpAny (model X.prog X.w) X.A (pyIter v) (PIE X pins σ tg R) X.xe s1) X.xe s
theorem Cq {M:Model} {A:Around} {E:Value→Shared→Prop} {s:Shared} {tg:Expr} {it:Addr} {u:Value} {o:Obj} {n:String} {vs:Array Value} {Q:Unit→Shared→Prop} (ho:s.heap.get? it=some o) (hc:o.cls=.type n) (hd:o.data=.fields vs)
    (hn:["enumerate", "zip", "dict_itemiterator", "dict_reverseitemiterator", "odict_iterator", "itertools.zip_longest", "itertools.pairwise"].contains n=false) (hQ:Q () s):wpAny M A (letOwnedTupleGo tg (.ref it) u) Q E s:=by
  unfold letOwnedTupleGo
  cases tg <;> first
    | exact wpAny_pure hQ
    | (cases u <;> first
        | exact wpAny_pure hQ
        | (refine wpAny_bind (wpAny_load ho ?_)
           rw [hc,hd]
           show wpAny M A (if (["enumerate", "zip", "dict_itemiterator", "dict_reverseitemiterator", "odict_iterator", "itertools.zip_longest", "itertools.pairwise"].contains n && vs[0]? == some (rawInt _))=true then _ else _) Q E s
           rw [if_neg (by intro h; rw [hn,Bool.false_and] at h; cases h)]
           exact wpAny_pure hQ))
def Itl (K:PySem.W.Frag) (a:Addr):It :=
 ⟨fun i H=>∃ xs x,SqL K H a xs∧xs[i]?=some x,fun i H x H'=>H'=H∧∀ xs,SqL K H a xs→xs[i]?=some x,fun i H=>∃ xs,SqL K H a xs∧xs.length≤i⟩
def Itt (K:PySem.W.Frag) (a:Addr):It :=
 ⟨fun i H=>∃ xs x,SqT K H a xs∧xs[i]?=some x,fun i H x H'=>H'=H∧∀ xs,SqT K H a xs→xs[i]?=some x,fun i H=>∃ xs,SqT K H a xs∧xs.length≤i⟩
def Itr (lo:Int) (n:Nat):It:=⟨fun i _=>i < n,fun i H x H'=>H'=H∧x=.int (lo+i),fun i _=>n≤i⟩
theorem yp {P:Program} {w:World} {K:PySem.W.Frag} {tg:Expr} (a it:Addr):Turn P w K tg (Itl K a) [it] it (fun i h=>h.IsListIter it a i) where
 mem:=by simp
 obj:=fun i h st b hb=>by
  have e:b=it:=by simpa using hb
  subst e
  obtain ⟨o,e,c,d⟩:=st
  exact ⟨o,e,fun v z=>by rw [d] at z; cases z⟩
 keep:=fun i h h' st k=>st.at fun o e=>k it (by simp) o e
 item:=by
  intro X hP hw hK hc i pins s σ H E I hf st hg
  subst hP hw hK
  obtain ⟨xs,x,hq,hx⟩:=hg
  obtain ⟨its,rv,p,hz⟩:=I.list hq
  obtain ⟨u,hu,ru⟩:=rv.get hx
  obtain ⟨f0,f1,f2,f3,f4,f5⟩:=hf it (by simp)
  refine wpAny_pyNext_list_item st p.isList (x:=u) (by simpa using hu) fun h' st' sb=>?_
  have I1:Inv X pins σ H { s with heap:=h' }:=I.turned (t':=s.toks) (fun b o hb e=>(sb.2 b hb).trans e) f0 f1 f3 f4 f5
  obtain ⟨o,e,c,d⟩:=id st'
  exact ⟨u,rfl,Cq (s:={ s with heap:=h' }) e c d (by decide) ⟨x,H,I1,ru,⟨rfl,fun ys hy=>by rw [I.list_inj hy hq]; exact hx⟩,st',fun b hb=>(hf b hb).1⟩⟩
 done:=by
  intro X hP hw hK hc i pins s σ H E I hf st hg
  subst hP hw hK
  obtain ⟨xs,hq,hx⟩:=hg
  obtain ⟨its,rv,p,hz⟩:=I.list hq
  obtain ⟨f0,f1,f2,f3,f4,f5⟩:=hf it (by simp)
  have hl:=rv.length
  exact wpAny_pyNext_list_end (I.ok.hd hc) st p.isList (by simp; omega) fun h' eb=>⟨rfl,I.turned (t':=s.toks) (fun b o hb e=>eb b o hb e) f0 f1 f3 f4 f5⟩
 self:=fun _ _ _ _ _ st h=>wpAny_pyIter_listiter st h
theorem wW {P:Program} {w:World} {K:PySem.W.Frag} {tg:Expr} (a it:Addr):Turn P w K tg (Itt K a) [it] it (fun i h=>h.IsTupleIter it a i) where
 mem:=by simp
 obj:=fun i h st b hb=>by
  have e:b=it:=by simpa using hb
  subst e
  obtain ⟨o,e,c,d⟩:=st
  exact ⟨o,e,fun v z=>by rw [d] at z; cases z⟩
 keep:=fun i h h' st k=>st.at fun o e=>k it (by simp) o e
 item:=by
  intro X hP hw hK hc i pins s σ H E I hf st hg
  subst hP hw hK
  obtain ⟨xs,x,hq,hx⟩:=hg
  obtain ⟨its,rv,p,hz⟩:=I.tuple hq
  obtain ⟨u,hu,ru⟩:=rv.get hx
  obtain ⟨f0,f1,f2,f3,f4,f5⟩:=hf it (by simp)
  refine wpAny_pyNext_tuple_item st (show s.heap.IsTuple a its.toArray from p) (x:=u) (by simpa using hu) fun h' st' sb=>?_
  have I1:Inv X pins σ H { s with heap:=h' }:=I.turned (t':=s.toks) (fun b o hb e=>(sb.2 b hb).trans e) f0 f1 f3 f4 f5
  obtain ⟨o,e,c,d⟩:=id st'
  exact ⟨u,rfl,Cq (s:={ s with heap:=h' }) e c d (by decide) ⟨x,H,I1,ru,⟨rfl,fun ys hy=>by rw [I.tuple_inj hy hq]; exact hx⟩,st',fun b hb=>(hf b hb).1⟩⟩
 done:=by
  intro X hP hw hK hc i pins s σ H E I hf st hg
  subst hP hw hK
  obtain ⟨xs,hq,hx⟩:=hg
  obtain ⟨its,rv,p,hz⟩:=I.tuple hq
  obtain ⟨f0,f1,f2,f3,f4,f5⟩:=hf it (by simp)
  have hl:=rv.length
  exact wpAny_pyNext_tuple_end (I.ok.hd hc) st (show s.heap.IsTuple a its.toArray from p) (by simp; omega) fun h' eb=>⟨rfl,I.turned (t':=s.toks) (fun b o hb e=>eb b o hb e) f0 f1 f3 f4 f5⟩
 self:=fun _ _ _ _ _ st h=>wpAny_pyIter_tupleiter st h
theorem wA {P:Program} {w:World} {K:PySem.W.Frag} {tg:Expr} (it:Addr) (lo:Int) (n:Nat):Turn P w K tg (Itr lo n) [it] it (fun i h=>IsRangeIter h it (lo+(i:Nat) * 1) ((n:Int) - (i:Nat)) 1) where
 mem:=by simp
 obj:=fun i h st b hb=>by
  have e:b=it:=by simpa using hb
  subst e
  exact ⟨_,st,fun v z=>by
   have z':Data.fields _=Data.cell v:=z
   cases z'⟩
 keep:=fun i h h' st k=>k it (by simp) _ st
 item:=by
  intro X hP hw hK hc i pins s σ H E I hf st hg
  subst hP hw hK
  obtain ⟨f0,f1,f2,f3,f4,f5⟩:=hf it (by simp)
  have W:=Walks.range (prog:=X.prog) (w:=X.w) (I.ok.hd hc) it lo 1 n
  refine W.item i s _ _ hg st fun v h' tk hv st' kk=>?_
  obtain ⟨t,rfl⟩:=hv
  have I1:Inv X pins σ H { s with heap:=h',toks:=tk }:=I.turned (fun b o hb e=>kk b o (by simpa using hb) e) f0 f1 f3 f4 f5
  refine ⟨_,rfl,Cq (s:={ s with heap:=h',toks:=tk }) (n:="range_iterator") st' rfl rfl (by decide) ⟨.int (lo+i),H,I1,⟨t,?_⟩,⟨rfl,rfl⟩,st',fun b hb=>(hf b hb).1⟩⟩
  rw [Int.mul_one]
 done:=by
  intro X hP hw hK hc i pins s σ H E I hf st hg
  subst hP hw hK
  obtain ⟨f0,f1,f2,f3,f4,f5⟩:=hf it (by simp)
  exact wpAny_pyNext_range_end (I.ok.hd hc) st (by have:n≤i:=hg; omega) fun h' eb=>⟨rfl,I.turned (t':=s.toks) (fun b o hb e=>eb b o hb e) f0 f1 f3 f4 f5⟩
 self:=fun _ _ _ _ _ st h=>wpAny_pyIter_rangeiter st h
end L2
namespace L2
open PySem PySem.Spec PyProof.Rows
section
variable {X:Cx} {tg:Expr}
def Lj (K:PySem.W.Frag) (tl:TE):TI:=fun σ H R=>tl σ H fun x H1=>∃ a,x=.ref a∧(∃ xs,SqL K H1 a xs)∧R (Itl K a) H1
def NQ (K:PySem.W.Frag) (tl:TE):TI:=fun σ H R=>tl σ H fun x H1=>∃ a,x=.ref a∧(∃ xs,SqT K H1 a xs)∧R (Itt K a) H1
theorem jq {l:Expr} {tl:TE} (hl:PE X l tl):PI X tg l (Lj X.K tl):=by
 intro pins s σ H R I h
 refine thn (hl pins s σ H _ I h) fun v s1 ⟨x,H1,I1,r1,q1⟩=>?_
 obtain ⟨a,e,⟨xs,hq⟩,q⟩:=q1
 subst e
 cases r1
 obtain ⟨its,rv,p,hz⟩:=I1.list hq
 refine wpAny_pyIter_list p.isList ?_
 refine ⟨s1.heap.objs.size,[s1.heap.objs.size],_,_,H1,rfl,I1.kept (t':=s1.toks) fun b o e=>Heap.get?_push_of_some _ e,yp a _,⟨_,Heap.get?_push_size _ rfl,rfl,rfl⟩,fun b hb=>?_,q⟩
 have e:b=s1.heap.objs.size:=by simpa using hb
 subst e
 exact I1.fpOk (Nat.le_refl _) (I1.hok.fresh (Nat.le_refl _))
theorem dR {l:Expr} {tl:TE} (hl:PE X l tl):PI X tg l (NQ X.K tl):=by
 intro pins s σ H R I h
 refine thn (hl pins s σ H _ I h) fun v s1 ⟨x,H1,I1,r1,q1⟩=>?_
 obtain ⟨a,e,⟨xs,hq⟩,q⟩:=q1
 subst e
 cases r1
 obtain ⟨its,rv,p,hz⟩:=I1.tuple hq
 refine wpAny_pyIter_tuple (show s1.heap.IsTuple a its.toArray from p) ?_
 refine ⟨s1.heap.objs.size,[s1.heap.objs.size],_,_,H1,rfl,I1.kept (t':=s1.toks) fun b o e=>Heap.get?_push_of_some _ e,wW a _,⟨_,Heap.get?_push_size _ rfl,rfl,rfl⟩,fun b hb=>?_,q⟩
 have e:b=s1.heap.objs.size:=by simpa using hb
 subst e
 exact I1.fpOk (Nat.le_refl _) (I1.hok.fresh (Nat.le_refl _))
theorem CP {pins:List (Addr × Obj)} {σ:St} {H:Hp} {s:Shared} {R:It→Hp→Prop} {E:Value→Shared→Prop} {lo hi:Int} {t u v:Tok} {tk:Nat} (I:Inv X pins σ H s) (h1:-(2 ^ 62)≤lo) (h2:lo < 2 ^ 62) (h3:-(2 ^ 62)≤hi) (h4:hi < 2 ^ 62)
  (q:R (Itr lo (hi - lo).toNat) H):wpAny (model X.prog X.w) X.A (pyIter (.ref s.heap.objs.size)) (PIE X pins σ tg R) E { s with heap:=s.heap.push { cls:=.type "range",data:=.fields #[.int lo t,.int hi u,.int 1 v] },toks:=tk }:=by
 refine wpAny_pyIter_range (IsRange.new ..) (small_one h1 h2 h3 h4) ?_
 have I1:Inv X pins σ H { s with heap:=s.heap.push { cls:=.type "range",data:=.fields #[.int lo t,.int hi u,.int 1 v] },toks:=tk }:=I.kept fun b o e=>Heap.get?_push_of_some _ e
 refine ⟨(s.heap.push { cls:=.type "range",data:=.fields #[.int lo t,.int hi u,.int 1 v] }).objs.size,[(s.heap.push { cls:=.type "range",data:=.fields #[.int lo t,.int hi u,.int 1 v] }).objs.size],_,_,H,rfl,
  I1.kept (t':=tk) fun b o e=>Heap.get?_push_of_some _ e,wA _ lo (hi - lo).toNat,?_,fun b hb=>?_,q⟩
 ·have e1:lo+((0:Nat):Int) * 1=lo:=by simp
  have e2:(((hi - lo).toNat:Nat):Int) - ((0:Nat):Int)=Builtin.Range.rangeSize lo hi 1:=by rw [rangeSize_one]; split <;> omega
  show IsRangeIter _ _ (lo+((0:Nat):Int) * 1) ((((hi - lo).toNat:Nat):Int) - ((0:Nat):Int)) 1
  rw [e1,e2]
  exact Heap.get?_push_size _ rfl
 ·have e:b=(s.heap.push { cls:=.type "range",data:=.fields #[.int lo t,.int hi u,.int 1 v] }).objs.size:=by simpa using hb
  subst e
  exact I1.fpOk (Nat.le_refl _) (I1.hok.fresh (Nat.le_refl _))
def K3 (ta:TA):TI:=fun σ H R=>ta σ H fun vs H1=>∃ j:Int,vs=[.int j]∧-(2 ^ 62)≤j∧j < 2 ^ 62∧R (Itr 0 j.toNat) H1
theorem eN {a:Expr} {ta:TA} {p pos:Pos} (hg:Gl X "range") (hm:X.mg "range" = none) (ha:PA X [a] ta) (hs:starEach [a] X.env=[(false,eval a X.env)]:=by rfl):PI X tg (.Call (.Name "range" p) [a] [] pos) (K3 ta):=by
 intro pins s σ H R I h
 refine Call_ (uY I hg hm boot_range (PyProof.Rows.callWith_type1 (thn (ha pos pins s σ H _ I h) fun us s1 ⟨vs,H1,I1,r1,q1⟩=>?_) hs rfl))
 obtain ⟨j,e,q1,q2,q⟩:=q1
 subst e
 cases r1 with
 | cons r rr =>
  cases rr
  obtain ⟨t,rfl⟩:=r
  exact call_range_1 (CP I1 (by omega) (by omega) q1 q2 (by simpa using q))
def Nz (wi:TI) (g:TG) (tb:TS):TS:=fun D σ H=>wi σ H fun J H1=>∃ W:Nat→Nat→St→Hp→Prop,(∃ m,W 0 m σ H1)∧∀ i m σ H,W i m σ H →
 (J.stop i H∧D.nx σ H)∨(J.go i H∧∃ N:St→Hp→Prop,(∀ σ' H',N σ' H'→∃ m',m' < m∧W (i+1) m' σ' H')∧∀ x H',J.yld i H x H'→g x σ H' fun σ2 H2=>tb { D with nx:=N,ct:=N,bk:=D.nx } σ2 H2)
def mF (fp:List Addr) (h:Heap):List (Addr × Obj):=fp.filterMap fun b=>(h.get? b).map fun o=>(b,o)
theorem cW {fp:List Addr} {h:Heap} {b:Addr} {o:Obj} (hb:b∈fp) (e:h.get? b=some o):(b,o)∈mF fp h:=List.mem_filterMap.mpr ⟨b,hb,by rw [e]; rfl⟩
theorem za {fp:List Addr} {h:Heap} {p:Addr × Obj} (hp:p∈mF fp h):p.1∈fp∧h.get? p.1=some p.2:=by
 obtain ⟨b,hb,e⟩:=List.mem_filterMap.mp hp
 cases q:h.get? b with
 | none=>rw [q] at e; cases e
 | some o =>
  rw [q] at e
  have e':(b,o)=p:=Option.some.inj e
  subst e'
  exact ⟨hb,q⟩
theorem Inv.pinned {pins:List (Addr × Obj)} {σ:St} {H:Hp} {s:Shared} {fp:List Addr} (I:Inv X pins σ H s) (hf:∀ b∈fp,wC X pins H b) (ho:∀ b∈fp,∃ o,s.heap.get? b=some o∧∀ v,o.data≠.cell v):Inv X (pins++mF fp s.heap) σ H s :=
 I.pins_of fun p hp=>(List.mem_append.mp hp).elim (fun z=>I.pin p (List.mem_append_right _ z)) fun z=>by
  obtain ⟨hb,e⟩:=za z
  obtain ⟨f0,f1,f2,_⟩:=hf p.1 hb
  obtain ⟨o,e',d⟩:=ho p.1 hb
  rw [e] at e'; cases e'
  exact ⟨e,f0,f1,f2,d⟩
theorem Inv.unpinned {pins pl:List (Addr × Obj)} {σ:St} {H:Hp} {s:Shared} (I:Inv X (pins++pl) σ H s):Inv X pins σ H s:=I.pins_of fun p hp=>I.pin p (List.mem_append_right _ (List.mem_append_left _ hp))
theorem fQ {iter:Expr} {body:List Stmt} {wi:TI} {g:TG} {tb:TS} {pos:Pos} (hp:PassesOwn (model X.prog X.w) X.A X.env X.xe) (hc:X.calm=true) (hi:PI X tg iter wi) (hg:PG X tg g) (hb:PSs X body tb)
  (hs:∀ x,foldedSetIterable iter X.env x=pure x:=by intro _; rfl):PS X (.For tg iter body [] pos) (Nz wi g tb):=by
 intro pins s σ H D I h
 refine wpAny_For (thn (hi pins s σ H _ I h) fun v s1 h1=>thn h1 fun itv s2 h2=>?_) hs
 obtain ⟨it,fp,tn,J,H2,e,I2,T,st2,f2,W,⟨m0,w0⟩,turn⟩:=h2
 subst e
 have stat:∀ {H':Hp},(∀ b∈fp,H' b=none)→∀ b∈fp,wC X pins H' b:=fun hn b hb=>⟨hn b hb,(f2 b hb).2⟩
 refine codeAny_forLoop_any (fun n s'=>∃ i σ' H',Inv X pins σ' H' s'∧tn i s'.heap∧(∀ b∈fp,H' b=none)∧W i n σ' H') ?_ m0 ⟨0,σ,H2,I2,st2,fun b hb=>(f2 b hb).1,w0⟩
 rintro n s3 ⟨i,σ3,H3,I3,st3,fr3,w3⟩
 rcases turn i n σ3 H3 w3 with ⟨stop,qn⟩ | ⟨go,N,hN,step⟩
 ·refine wpAny_passesOwn hp (thn (T.done X rfl rfl rfl hc i pins s3 σ3 H3 X.xe I3 (stat fr3) st3 stop) fun r s4 ⟨hr,I4⟩=>?_)
  subst hr
  exact wpAny_execs_nil ⟨σ3,H3,I4,qn⟩
 ·refine wpAny_passesOwn hp (thn (T.item X rfl rfl rfl hc i pins s3 σ3 H3 X.xe I3 (stat fr3) st3 go) fun r s4 ⟨u,hr,h4⟩=>?_)
  subst hr
  refine wpAny_passesOwn hp (thn h4 fun _ s5 ⟨x,H5,I5,r5,y5,st5,fr5⟩=>?_)
  have I5':=I5.pinned (stat fr5) (T.obj _ _ st5)
  refine wpAny_passesOwn hp (thn (hg _ s5 σ3 H5 x u _ I5' r5 (step x H5 y5)) fun _ s6 ⟨σ6,H6,I6,q6⟩=>?_)
  refine wpAny_passesOwn hp (thn (hb _ s6 σ6 H6 _ I6 q6) fun f s7 q7=>?_)
  have again:∀ {σ7:St} {H7:Hp},Inv X (pins++mF fp s5.heap) σ7 H7 s7→N σ7 H7→∃ m,m < n∧∃ i σ' H',Inv X pins σ' H' s7∧tn i s7.heap∧(∀ b∈fp,H' b=none)∧W i m σ' H':=fun {σ7 H7} I7 n7=>by
   obtain ⟨m',hm,w7⟩:=hN σ7 H7 n7
   refine ⟨m',hm,i+1,σ7,H7,I7.unpinned,T.keep _ _ _ st5 fun b hb o e=>(I7.pin (b,o) (List.mem_append_right _ (List.mem_append_right _ (cW hb e)))).1,fun b hb=>?_,w7⟩
   obtain ⟨o,e,d⟩:=T.obj _ _ st5 b hb
   exact (I7.pin (b,o) (List.mem_append_right _ (List.mem_append_right _ (cW hb e)))).2.1
  cases f with
  | next=>obtain ⟨σ7,H7,I7,n7⟩:=q7; exact again I7 n7
  | cont=>obtain ⟨σ7,H7,I7,n7⟩:=q7; exact again I7 n7
  | brk=>obtain ⟨σ7,H7,I7,q7⟩:=q7; exact ⟨σ7,H7,I7.unpinned,q7⟩
  | ret v=>obtain ⟨x7,σ7,H7,I7,r7,q7⟩:=q7; exact ⟨x7,σ7,H7,I7.unpinned,r7,q7⟩
end
theorem lH {K:PySem.W.Frag} {a:Addr} {xs:List V} {g:TG} {tb:TS} {D:Ends} {σ:St} {H:Hp} (Pv:Nat→St→Hp→Prop) (h0:Pv 0 σ H) (hl:∀ i σ H,i≤xs.length→Pv i σ H→SqL K H a xs)
  (hs:∀ i x σ H,xs[i]?=some x→Pv i σ H→g x σ H fun σ2 H2=>tb { D with nx:=Pv (i+1),ct:=Pv (i+1),bk:=D.nx } σ2 H2) (hd:∀ σ H,Pv xs.length σ H→D.nx σ H) :
  ∃ W:Nat→Nat→St→Hp→Prop,(∃ m,W 0 m σ H)∧∀ i m σ H,W i m σ H →
   ((Itl K a).stop i H∧D.nx σ H)∨((Itl K a).go i H∧∃ N:St→Hp→Prop,(∀ σ' H',N σ' H'→∃ m',m' < m∧W (i+1) m' σ' H')∧∀ x H',(Itl K a).yld i H x H'→g x σ H' fun σ2 H2=>tb { D with nx:=N,ct:=N,bk:=D.nx } σ2 H2):=by
 refine ⟨fun i m σ H=>m=xs.length - i∧i≤xs.length∧Pv i σ H,⟨xs.length,by simp,Nat.zero_le _,h0⟩,?_⟩
 rintro i m σ H ⟨rfl,hi,p⟩
 have q:=hl i σ H hi p
 by_cases hlt:i < xs.length
 ·refine .inr ⟨⟨xs,xs[i],q,by simp [hlt]⟩,Pv (i+1),fun σ' H' p'=>⟨xs.length - (i+1),by omega,rfl,hlt,p'⟩,fun x H' y=>?_⟩
  obtain ⟨e,y⟩:=y
  subst e
  exact hs i x σ _ (y xs q) p
 ·have e:i=xs.length:=by omega
  subst e
  exact .inl ⟨⟨xs,q,Nat.le_refl _⟩,hd σ H p⟩
theorem mK {K:PySem.W.Frag} {a:Addr} {xs:List V} {g:TG} {tb:TS} {D:Ends} {σ:St} {H:Hp} (Pv:Nat→St→Hp→Prop) (h0:Pv 0 σ H) (hl:∀ i σ H,i≤xs.length→Pv i σ H→SqT K H a xs)
  (hs:∀ i x σ H,xs[i]?=some x→Pv i σ H→g x σ H fun σ2 H2=>tb { D with nx:=Pv (i+1),ct:=Pv (i+1),bk:=D.nx } σ2 H2) (hd:∀ σ H,Pv xs.length σ H→D.nx σ H) :
  ∃ W:Nat→Nat→St→Hp→Prop,(∃ m,W 0 m σ H)∧∀ i m σ H,W i m σ H →
   ((Itt K a).stop i H∧D.nx σ H)∨((Itt K a).go i H∧∃ N:St→Hp→Prop,(∀ σ' H',N σ' H'→∃ m',m' < m∧W (i+1) m' σ' H')∧∀ x H',(Itt K a).yld i H x H'→g x σ H' fun σ2 H2=>tb { D with nx:=N,ct:=N,bk:=D.nx } σ2 H2):=by
 refine ⟨fun i m σ H=>m=xs.length - i∧i≤xs.length∧Pv i σ H,⟨xs.length,by simp,Nat.zero_le _,h0⟩,?_⟩
 rintro i m σ H ⟨rfl,hi,p⟩
 have q:=hl i σ H hi p
 by_cases hlt:i < xs.length
 ·refine .inr ⟨⟨xs,xs[i],q,by simp [hlt]⟩,Pv (i+1),fun σ' H' p'=>⟨xs.length - (i+1),by omega,rfl,hlt,p'⟩,fun x H' y=>?_⟩
  obtain ⟨e,y⟩:=y
  subst e
  exact hs i x σ _ (y xs q) p
 ·have e:i=xs.length:=by omega
  subst e
  exact .inl ⟨⟨xs,q,Nat.le_refl _⟩,hd σ H p⟩
theorem jC {lo:Int} {n:Nat} {g:TG} {tb:TS} {D:Ends} {σ:St} {H:Hp} (Pv:Nat→St→Hp→Prop) (h0:Pv 0 σ H)
  (hs:∀ i σ H,i < n→Pv i σ H→g (.int (lo+i)) σ H fun σ2 H2=>tb { D with nx:=Pv (i+1),ct:=Pv (i+1),bk:=D.nx } σ2 H2) (hd:∀ σ H,Pv n σ H→D.nx σ H) :
  ∃ W:Nat→Nat→St→Hp→Prop,(∃ m,W 0 m σ H)∧∀ i m σ H,W i m σ H →
   ((Itr lo n).stop i H∧D.nx σ H)∨((Itr lo n).go i H∧∃ N:St→Hp→Prop,(∀ σ' H',N σ' H'→∃ m',m' < m∧W (i+1) m' σ' H')∧∀ x H',(Itr lo n).yld i H x H'→g x σ H' fun σ2 H2=>tb { D with nx:=N,ct:=N,bk:=D.nx } σ2 H2):=by
 refine ⟨fun i m σ H=>m=n - i∧i≤n∧Pv i σ H,⟨n,by simp,Nat.zero_le _,h0⟩,?_⟩
 rintro i m σ H ⟨rfl,hi,p⟩
 by_cases hlt:i < n
 ·refine .inr ⟨hlt,Pv (i+1),fun σ' H' p'=>⟨n - (i+1),by omega,rfl,hlt,p'⟩,fun x H' y=>?_⟩
  obtain ⟨e,y⟩:=y
  subst e y
  exact hs i σ _ hlt p
 ·have e:i=n:=by omega
  subst e
  exact .inl ⟨Nat.le_refl _,hd σ H p⟩
end L2
namespace L2
open PySem PySem.Spec PyProof.Rows
abbrev R2:=V→V→Hp→VK→Prop
def OpR (X:Cx) (f:Value→Value→Sem Value) (r:R2):Prop :=
 ∀ (pins:List (Addr × Obj)) (s:Shared) (σ:St) (H:Hp) (x y:V) (v u:Value) (Q:VK),Inv X pins σ H s→RelV x v→RelV y u→r x y H Q →
  wpAny (model X.prog X.w) X.A (f v u) (EP X pins σ Q) X.xe s
def jt (X:Cx) (f:Value) (r:List V→Hp→VK→Prop):Prop :=
 ∀ (pins:List (Addr × Obj)) (s:Shared) (σ:St) (H:Hp) (xs:List V) (us:List Value) (Q:VK),Inv X pins σ H s→Vals xs us→r xs H Q →
  wpAny (model X.prog X.w) X.A (call f us) (EP X pins σ Q) X.xe s
def tOp (r:R2) (ta tb:TE):TE:=fun σ H Q=>ta σ H fun x H1=>tb σ H1 fun y H2=>r x y H2 Q
def rI (C:Int→Int→Prop) (g:Int→Int→V):R2:=fun x y H Q=>∃ i j,x=.int i∧y=.int j∧C i j∧Q (g i j) H
def rI0 (g:Int→Int→V):R2:=fun x y H Q=>∃ i j,x=.int i∧y=.int j∧Q (g i j) H
section
variable {X:Cx} {a b c:Expr} {ta tb tc:TE} {pos:Pos}
theorem Lp (ha:PE X a ta) (hb:PE X b tb) {pins:List (Addr × Obj)} {s:Shared} {σ:St} {H:Hp} {R:V→V→Hp→Prop} (I:Inv X pins σ H s)
  (h:ta σ H fun x H1=>tb σ H1 fun y H2=>R x y H2) {Q:Value→Shared→Prop} {f:Value→Value→Sem Value}
  (hf:∀ v u s2 x y H2,Inv X pins σ H2 s2→RelV x v→RelV y u→R x y H2→wpAny (model X.prog X.w) X.A (f v u) Q X.xe s2) :
  wpAny (model X.prog X.w) X.A (eval a X.env) (fun v s₁=>wpAny (model X.prog X.w) X.A (eval b X.env) (fun u s₂=>wpAny (model X.prog X.w) X.A (f v u) Q X.xe s₂) X.xe s₁) X.xe s:=by
 refine thn (ha pins s σ H _ I h) fun v s1 ⟨x,H1,I1,r1,q1⟩=>?_
 refine thn (hb pins s1 σ H1 _ I1 q1) fun u s2 ⟨y,H2,I2,r2,q2⟩=>?_
 exact hf v u s2 x y H2 I2 r1 r2 q2
theorem aV {op:Operator} {r:R2} (ho:OpR X (binaryOp op) r) (ha:PE X a ta) (hb:PE X b tb):PE X (.BinOp a op b pos) (tOp r ta tb):=by
 intro pins s σ H Q I h
 exact wpAny_BinOp (Lp ha hb I h fun v u s2 x y H2 I2 rx ry q=>ho pins s2 σ H2 x y v u Q I2 rx ry q)
theorem opI {f:Value→Value→Sem Value} {C:Int→Int→Prop} {g:Int→Int→Int}
  (rule:∀ (i j:Int) (t u:Tok) (s:Shared) (Q:Value→Shared→Prop) (E:Value→Shared→Prop),C i j→Q (.int (g i j) s.toks) { s with toks:=s.toks+1 }→wpAny (model X.prog X.w) X.A (f (.int i t) (.int j u)) Q E s) :
  OpR X f (rI C fun i j=>.int (g i j)):=by
 intro pins s σ H x y v u Q I rx ry h
 obtain ⟨i,j,rfl,rfl,hc,q⟩:=h
 obtain ⟨t,rfl⟩:=rx
 obtain ⟨t',rfl⟩:=ry
 exact rule i j t t' s _ _ hc ⟨.int (g i j),H,I.tok _,⟨_,rfl⟩,q⟩
theorem Ma {f:Value→Value→Sem Value} {g:Int→Int→Int}
  (rule:∀ (i j:Int) (t u:Tok) (s:Shared) (Q:Value→Shared→Prop) (E:Value→Shared→Prop),Q (.int (g i j) s.toks) { s with toks:=s.toks+1 }→wpAny (model X.prog X.w) X.A (f (.int i t) (.int j u)) Q E s) :
  OpR X f (rI0 fun i j=>.int (g i j)):=by
 intro pins s σ H x y v u Q I rx ry h
 obtain ⟨i,j,rfl,rfl,q⟩:=h
 obtain ⟨t,rfl⟩:=rx
 obtain ⟨t',rfl⟩:=ry
 exact rule i j t t' s _ _ ⟨.int (g i j),H,I.tok _,⟨_,rfl⟩,q⟩
theorem Kf {f:Value→Value→Sem Value} {g:Int→Int→Bool}
  (rule:∀ (i j:Int) (t u:Tok) (s:Shared) (Q:Value→Shared→Prop) (E:Value→Shared→Prop),Q (.bool (g i j)) s→wpAny (model X.prog X.w) X.A (f (.int i t) (.int j u)) Q E s) :
  OpR X f (rI0 fun i j=>.bl (g i j)):=by
 intro pins s σ H x y v u Q I rx ry h
 obtain ⟨i,j,rfl,rfl,q⟩:=h
 obtain ⟨t,rfl⟩:=rx
 obtain ⟨t',rfl⟩:=ry
 exact rule i j t t' s _ _ ⟨.bl (g i j),H,I,rfl,q⟩
def MK (i j:Int):Prop:=0≤j∧j≤1000000∧i.natAbs < 2 ^ 64
def Kq (i j:Int):Prop:=(-(2 ^ 64) < i∧i < 2 ^ 64)∨(-(2 ^ 64) < j∧j < 2 ^ 64)
theorem Kq.ok {i j:Int} (h:Kq i j):IntMulOk i j:=by
 rcases h with ⟨h1,h2⟩ | ⟨h1,h2⟩
 ·exact .of_left (intBits_le_64 h1 h2)
 ·exact .of_right (intBits_le_64 h1 h2)
theorem fG:OpR X (binaryOp .Add) (rI0 fun i j=>.int (i+j)):=Ma fun _ _ _ _ _ _ _ q=>add_int q
theorem oO:OpR X (binaryOp .Sub) (rI0 fun i j=>.int (i - j)):=Ma fun _ _ _ _ _ _ _ q=>sub_int q
theorem uW:OpR X (binaryOp .Mult) (rI Kq fun i j=>.int (i * j)):=opI fun _ _ _ _ _ _ _ hc q=>mul_int q hc.ok
theorem gY:OpR X (binaryOp .Mod) (rI (fun _ j=>0 < j) fun i j=>.int (i % j)):=opI fun i j _ _ _ _ _ hc q=>by
 have h1:(0:Int) < j:=hc
 exact mod_int' (by omega) (by rw [Int.fmod_eq_emod_of_nonneg i (by omega)]; exact q)
theorem DX:OpR X (binaryOp .Pow) (rI MK fun i j=>.int (i ^ j.toNat)):=opI fun _ _ _ _ _ _ _ hc q=>pow_int_small hc.1 hc.2.1 hc.2.2 q
end
def Ms:V→V→Bool
 | .non,.non=>true | .non,.int _=>true | .int _,.non=>true | .non,.bl _=>true | .bl _,.non=>true | .non,.str _=>true | .str _,.non=>true
 | .int _,.int _=>true | .bl _,.bl _=>true | .str _,.str _=>true | .byt _,.byt _=>true
 | .int _,.str _=>true | .str _,.int _=>true | .bl _,.str _=>true | .str _,.bl _=>true
 | _,_=>false
def rEq:R2:=fun x y H Q=>Ms x y=true∧Q (.bl (decide (x=y))) H
def rNe:R2:=fun x y H Q=>Ms x y=true∧Q (.bl (!decide (x=y))) H
theorem xX {i j:Int}:decide (V.int i=V.int j)=(i == j):=by
 rw [Bool.eq_iff_iff]
 simp
theorem Dw {i j:Bool}:decide (V.bl i=V.bl j)=(i == j):=by
 rw [Bool.eq_iff_iff]
 simp
theorem yr {i j:Str}:decide (V.str i=V.str j)=(i == j):=by
 rw [Bool.eq_iff_iff]
 simp
theorem xR {i j:Array UInt8}:decide (V.byt i=V.byt j)=(i.toList == j.toList):=by
 rw [Bool.eq_iff_iff]
 cases i
 cases j
 simp
section
variable {X:Cx} {a b c:Expr} {ta tb tc:TE} {pos:Pos}
theorem bV {pins:List (Addr × Obj)} {σ:St} {H:Hp} {s:Shared} {Q:VK} {k k':Bool} (I:Inv X pins σ H s) (q:Q (.bl k) H) (e:k=k'):EP X pins σ Q (.bool k') s:=by
 subst e
 exact ⟨.bl k,H,I,rfl,q⟩
theorem nM:OpR X (compareOp .Eq) rEq:=by
 intro pins s σ H x y v u Q I rx ry h
 obtain ⟨hs,q⟩:=h
 cases x with
 | non =>
  cases rx
  cases y with
  | non=>cases ry; exact PySem.EqNone.eq_none_none (bV I q (by simp))
  | bl j=>cases ry; exact PySem.EqNone.eq_none_bool (bV I q (by simp))
  | int j=>obtain ⟨t',rfl⟩:=ry; exact PySem.EqNone.eq_none_int (bV I q (by simp))
  | str j=>obtain ⟨t',rfl⟩:=ry; exact PySem.EqNone.eq_none_str (bV I q (by simp))
  | _=>exact absurd (show false=true from hs) Bool.false_ne_true
 | bl i =>
  cases rx
  cases y with
  | non=>cases ry; exact PySem.EqNone.eq_bool_none (bV I q (by simp))
  | bl j=>cases ry; exact eq_bool (bV I q Dw)
  | str j=>obtain ⟨t',rfl⟩:=ry; exact PySem.EqMixed.eq_bool_str (bV I q (by simp))
  | _=>exact absurd (show false=true from hs) Bool.false_ne_true
 | int i =>
  obtain ⟨t,rfl⟩:=rx
  cases y with
  | non=>cases ry; exact PySem.EqNone.eq_int_none (bV I q (by simp))
  | int j=>obtain ⟨t',rfl⟩:=ry; exact eq_int (bV I q xX)
  | str j=>obtain ⟨t',rfl⟩:=ry; exact PySem.EqMixed.eq_int_str (bV I q (by simp))
  | _=>exact absurd (show false=true from hs) Bool.false_ne_true
 | str i =>
  obtain ⟨t,rfl⟩:=rx
  cases y with
  | non=>cases ry; exact PySem.EqNone.eq_str_none (bV I q (by simp))
  | bl j=>cases ry; exact PySem.EqMixed.eq_str_bool (bV I q (by simp))
  | int j=>obtain ⟨t',rfl⟩:=ry; exact PySem.EqMixed.eq_str_int (bV I q (by simp))
  | str j=>obtain ⟨t',rfl⟩:=ry; exact eq_str (bV I q yr)
  | _=>exact absurd (show false=true from hs) Bool.false_ne_true
 | byt i =>
  obtain ⟨t,rfl⟩:=rx
  cases y with
  | byt j=>obtain ⟨t',rfl⟩:=ry; exact PySem.W.eq_bytes (bV I q xR)
  | _=>exact absurd (show false=true from hs) Bool.false_ne_true
 | _=>cases y <;> exact absurd (show false=true from hs) Bool.false_ne_true
theorem oY:OpR X (compareOp .NotEq) rNe:=by
 intro pins s σ H x y v u Q I rx ry h
 obtain ⟨hs,q⟩:=h
 cases x with
 | non =>
  cases rx
  cases y with
  | non=>cases ry; exact PySem.EqNone.ne_none_none (bV I q (by simp))
  | bl j=>cases ry; exact PySem.EqNone.ne_none_bool (bV I q (by simp))
  | int j=>obtain ⟨t',rfl⟩:=ry; exact PySem.EqNone.ne_none_int (bV I q (by simp))
  | str j=>obtain ⟨t',rfl⟩:=ry; exact PySem.EqNone.ne_none_str (bV I q (by simp))
  | _=>exact absurd (show false=true from hs) Bool.false_ne_true
 | bl i =>
  cases rx
  cases y with
  | non=>cases ry; exact PySem.EqNone.ne_bool_none (bV I q (by simp))
  | bl j=>cases ry; exact ne_bool (bV I q (congrArg not Dw))
  | str j=>obtain ⟨t',rfl⟩:=ry; exact PySem.EqMixed.ne_bool_str (bV I q (by simp))
  | _=>exact absurd (show false=true from hs) Bool.false_ne_true
 | int i =>
  obtain ⟨t,rfl⟩:=rx
  cases y with
  | non=>cases ry; exact PySem.EqNone.ne_int_none (bV I q (by simp))
  | int j=>obtain ⟨t',rfl⟩:=ry; exact ne_int (bV I q (congrArg not xX))
  | str j=>obtain ⟨t',rfl⟩:=ry; exact PySem.EqMixed.ne_int_str (bV I q (by simp))
  | _=>exact absurd (show false=true from hs) Bool.false_ne_true
 | str i =>
  obtain ⟨t,rfl⟩:=rx
  cases y with
  | non=>cases ry; exact PySem.EqNone.ne_str_none (bV I q (by simp))
  | bl j=>cases ry; exact PySem.EqMixed.ne_str_bool (bV I q (by simp))
  | int j=>obtain ⟨t',rfl⟩:=ry; exact PySem.EqMixed.ne_str_int (bV I q (by simp))
  | str j=>obtain ⟨t',rfl⟩:=ry; exact ne_str (bV I q (congrArg not yr))
  | _=>exact absurd (show false=true from hs) Bool.false_ne_true
 | byt i =>
  obtain ⟨t,rfl⟩:=rx
  cases y with
  | byt j=>obtain ⟨t',rfl⟩:=ry; exact PySem.W.ne_bytes (bV I q (congrArg not xR))
  | _=>exact absurd (show false=true from hs) Bool.false_ne_true
 | _=>cases y <;> exact absurd (show false=true from hs) Bool.false_ne_true
theorem K6:OpR X (compareOp .Lt) (rI0 fun i j=>.bl (decide (i < j))):=Kf fun _ _ _ _ _ _ _ q=>lt_int q
theorem KZ:OpR X (compareOp .LtE) (rI0 fun i j=>.bl (decide (i≤j))):=Kf fun _ _ _ _ _ _ _ q=>le_int q
theorem JN:OpR X (compareOp .Gt) (rI0 fun i j=>.bl (decide (j < i))):=Kf fun _ _ _ _ _ _ _ q=>gt_int q
theorem J5:OpR X (compareOp .GtE) (rI0 fun i j=>.bl (decide (j≤i))):=Kf fun _ _ _ _ _ _ _ q=>ge_int q
theorem xK:OpR X (compareOp .In) (fun x y H Q=>∃ i j,x=.str i∧y=.str j∧Q (.bl (!(Builtin.Str.occurrences j i 0 j.length 1).isEmpty)) H):=by
 intro pins s σ H x y v u Q I rx ry h
 obtain ⟨i,j,rfl,rfl,q⟩:=h
 obtain ⟨t,rfl⟩:=rx
 obtain ⟨t',rfl⟩:=ry
 exact in_str (bV I q rfl)
theorem Ao:OpR X (compareOp .Is) (fun x y H Q=>y=.non∧Q (.bl (decide (x=.non))) H):=by
 intro pins s σ H x y v u Q I rx ry h
 obtain ⟨rfl,q⟩:=h
 cases ry
 refine is_none_gen (bV I q ?_)
 cases x <;> first
  | (cases rx; rfl)
  | (obtain ⟨t,rfl⟩:=rx; rfl)
theorem OpR.or {f:Value→Value→Sem Value} {r r':R2} (h:OpR X f r) (h':OpR X f r'):OpR X f (fun x y H Q=>r x y H Q∨r' x y H Q):=by
 intro pins s σ H x y v u Q I rx ry q
 rcases q with q | q
 ·exact h pins s σ H x y v u Q I rx ry q
 ·exact h' pins s σ H x y v u Q I rx ry q
theorem bZ (b:Expr) {op:CmpOp} (h:op≠.In:=by decide) (h2:op≠.NotIn:=by decide):behindInMarks op b=false:=by
 have e1:(op == CmpOp.In)=false:=by cases op <;> first | rfl | exact absurd rfl h
 have e2:(op == CmpOp.NotIn)=false:=by cases op <;> first | rfl | exact absurd rfl h2
 cases b <;> simp [behindInMarks,e1,e2]
theorem fJ {op:CmpOp} {r:R2} (ho:OpR X (compareOp op) r) (ha:PE X a ta) (hb:PE X b tb) (hm:behindInMarks op b=false):PE X (.Compare a [op] [b] pos) (tOp r ta tb):=by
 intro pins s σ H Q I h
 exact wpAny_Compare1 (Lp ha hb I h fun v u s2 x y H2 I2 rx ry q=>ho pins s2 σ H2 x y v u Q I2 rx ry q) hm
def J0 (t:TE):TT:=fun σ H Q=>t σ H fun x H'=>∃ k,x=.bl k∧Q k H'
theorem bh {op:CmpOp} {r:R2} (ho:OpR X (compareOp op) r) (ha:PE X a ta) (hb:PE X b tb) (hm:behindInMarks op b=false):PT X (.Compare a [op] [b] pos) (J0 (tOp r ta tb)):=by
 intro pins s σ H Q I h
 refine wpAny_isTrue_Compare1 (thn (ha pins s σ H _ I h) fun v s1 ⟨x,H1,I1,r1,q1⟩=>thn (hb pins s1 σ H1 _ I1 q1) fun u s2 ⟨y,H2,I2,r2,q2⟩ =>
  thn (ho pins s2 σ H2 x y v u _ I2 r1 r2 q2) fun c s3 ⟨z,H3,I3,r3,k,e,q3⟩=>?_) hm
 subst e
 cases r3
 exact wpAny_truthy_bool ⟨H3,I3,q3⟩
def oJ (r r':R2) (ta tb tc:TE):TE:=fun σ H Q=>ta σ H fun x H1=>tb σ H1 fun y H2=>r x y H2 fun z H3=>∃ k,z=.bl k ∧
 (if k=true then tc σ H3 fun w' H4=>r' y w' H4 Q else Q (.bl false) H3)
theorem pD {op op':CmpOp} {r r':R2} (ho:OpR X (compareOp op) r) (ho':OpR X (compareOp op') r') (ha:PE X a ta) (hb:PE X b tb) (hc:PE X c tc)
  (hm:lastMarks [op,op'] [b,c]=false:=by with_unfolding_all rfl):PE X (.Compare a [op,op'] [b,c] pos) (oJ r r' ta tb tc):=by
 intro pins s σ H Q I h
 refine Compare_chain (thn (ha pins s σ H _ I h) fun v s1 ⟨x,H1,I1,r1,q1⟩=>chain_link (thn (hb pins s1 σ H1 _ I1 q1) fun u s2 ⟨y,H2,I2,r2,q2⟩ =>
  thn (ho pins s2 σ H2 x y v u _ I2 r1 r2 q2) fun d s3 ⟨z,H3,I3,r3,k,e,q3⟩=>?_)) hm
 subst e
 cases r3
 refine wpAny_truthy_bool ?_
 cases k with
 | false=>exact ite_ff ⟨.bl false,H3,I3,rfl,q3⟩
 | true=>exact ite_tt (chain_last (thn (hc pins s3 σ H3 _ I3 q3) fun w' s4 ⟨z',H4,I4,r4,q4⟩=>ho' pins s4 σ H4 y z' u w' Q I4 r2 r4 q4))
theorem Cu {op op':CmpOp} {r r':R2} (ho:OpR X (compareOp op) r) (ho':OpR X (compareOp op') r') (ha:PE X a ta) (hb:PE X b tb) (hc:PE X c tc)
  (hm:lastMarks [op,op'] [b,c]=false:=by with_unfolding_all rfl):PT X (.Compare a [op,op'] [b,c] pos) (J0 (oJ r r' ta tb tc)):=by
 intro pins s σ H Q I h
 refine isTrue_chain (thn (ha pins s σ H _ I h) fun v s1 ⟨x,H1,I1,r1,q1⟩=>test_link (thn (hb pins s1 σ H1 _ I1 q1) fun u s2 ⟨y,H2,I2,r2,q2⟩ =>
  thn (ho pins s2 σ H2 x y v u _ I2 r1 r2 q2) fun d s3 ⟨z,H3,I3,r3,k,e,q3⟩=>?_)) hm
 subst e
 cases r3
 refine wpAny_truthy_bool ?_
 cases k with
 | false =>
  obtain ⟨k',e',q'⟩:=q3
  cases e'
  exact ite_ff ⟨H3,I3,q'⟩
 | true =>
  refine ite_tt (test_last (thn (hc pins s3 σ H3 _ I3 q3) fun w' s4 ⟨z',H4,I4,r4,q4⟩=>thn (ho' pins s4 σ H4 y z' u w' _ I4 r2 r4 q4) fun d' s5 ⟨z2,H5,I5,r5,k2,e2,q5⟩=>?_))
  subst e2
  cases r5
  exact wpAny_truthy_bool ⟨H5,I5,q5⟩
theorem oR:(sizeLine:Nat) < 2 ^ 63:=by rw [sizeLine_eq]; decide
theorem dg:OpR X (binaryOp .Add) (fun x y H Q=>∃ i j,x=.str i∧y=.str j∧i.length+j.length≤sizeLine∧Q (.str (i++j)) H):=by
 intro pins s σ H x y v u Q I rx ry h
 obtain ⟨i,j,rfl,rfl,hz,q⟩:=h
 obtain ⟨t,rfl⟩:=rx
 obtain ⟨t',rfl⟩:=ry
 exact add_str (fun t' tk=>⟨.str (i++j),H,I.tok _,⟨_,rfl⟩,q⟩) hz
theorem vals1 {x:V} {us:List Value} (r:Vals [x] us):∃ u,us=[u]∧RelV x u:=by
 cases r with
 | cons r1 r2=>cases r2; exact ⟨_,rfl,r1⟩
theorem vals2 {x y:V} {us:List Value} (r:Vals [x,y] us):∃ u w',us=[u,w']∧RelV x u∧RelV y w':=by
 cases r with
 | cons r1 r2 =>
  cases r2 with
  | cons r3 r4=>cases r4; exact ⟨_,_,rfl,r1,r3⟩
theorem m8:jt X (.type "int") (fun xs H Q=>(∃ i,xs=[.int i]∧Q (.int i) H)∨∃ k,xs=[.bl k]∧Q (.int (if k then 1 else 0)) H):=by
 intro pins s σ H xs us Q I r h
 rcases h with ⟨i,rfl,q⟩ | ⟨k,rfl,q⟩
 ·obtain ⟨u,rfl,t,rfl⟩:=vals1 r
  exact call_int_int ⟨.int i,H,I,⟨_,rfl⟩,q⟩
 ·obtain ⟨u,rfl,r1⟩:=vals1 r
  cases r1
  exact call_int_bool ⟨.int (if k then 1 else 0),H,I.tok _,⟨_,rfl⟩,q⟩
end
end L2
namespace L2
open PySem PySem.Spec PyProof.Rows
structure Oh (h:Heap) (x dx C:Addr) (mA:Str→Option Value):Prop where
 obj:h.get? x=some (PySem.W.instObj C dx)
 ns:h.Ns1 dx mA
 ne:dx≠x
section
variable {prog:Program} {w:World} {A:Around} {E:Value→Shared→Prop} {s:Shared} {K:PySem.W.Frag} {x dx C f:Addr} {mA:Str→Option Value} {name:Str} {v:Value}
end
theorem xq.some_of {v:V} {o:Option Value} (r:xq (some v) o):∃ u,o=some u∧RelV v u:=by
 cases o with
 | none=>exact (show False from r).elim
 | some u=>exact ⟨u,rfl,r⟩
section
variable {P:Program} {w:World} {H H':Hp} {h h':Heap} {a C dx:Addr} {fs fs':List (Str × V)}
end
structure Cls (K:PySem.W.Frag) (C:Addr):Prop where
 pg:PySem.W.plainGet K C Str.empty=true
 hd:PySem.W.hasDictIn K C=true
 po:PySem.W.plainOver K C=true
 sa:PySem.W.findIn K (.ref C) "__setattr__" = some (some (.builtin "object.__setattr__"))
structure Con (K:PySem.W.Frag) (C:Addr) (f:Str) (v:V) (u:Value):Prop where
 at_:PySem.W.findIn K (.ref C) f=some (some u)
 rel:RelV v u
 get:PySem.W.specialIn K u "__get__" = some none
 cp:PySem.W.copiedNames.contains f=false
structure Meth (K:PySem.W.Frag) (C:Addr) (m:Str) (f:Addr):Prop where
 at_:PySem.W.findIn K (.ref C) m=some (some (.ref f))
 fn:PySem.W.isFn K (.ref f)=true
 kp:PySem.W.keepIn K (.ref f)=true
section
variable {X:Cx} {pins:List (Addr × Obj)} {σ:St} {H:Hp} {s:Shared} {a C dx:Addr} {fs:List (Str × V)} {f:Str} {v:V} {A:Around} {E:Value→Shared→Prop}
end
section
variable {X:Cx} {o e value:Expr} {f:Str} {pos pos' tpos:Pos} {ta tv:TE}
end
section
variable {X:Cx} {pins:List (Addr × Obj)} {σ:St} {H:Hp} {s:Shared} {A:Around} {E:Value→Shared→Prop} {Q:Value→Shared→Prop} {c:Value} {b:Bool}
inductive xU (K:PySem.W.Frag) (H:Hp):V→Value→Prop where
 | non:xU K H .non (.type "NoneType")
 | bl (x:Bool):xU K H (.bl x) (.type "bool")
 | int (i:Int):xU K H (.int i) (.type "int")
 | str (x:Str):xU K H (.str x) (.type "str")
 | flt (x:UInt64):xU K H (.flt x) (.type "float")
 | lst {a:Addr} {xs:List V} (e:H a=some (.lst xs)):xU K H (.ref a) (.type "list")
 | frz {a:Addr} {o:Obj} {xs:List V} (e:H a=some (.frz o (.lst xs))):xU K H (.ref a) (.type "list")
 | tup {a:Addr} {xs:List V} (e:H a=some (.tup xs)):xU K H (.ref a) (.type "tuple")
 | dK {a:Addr} {kvs:List (Key × V)} (e:H a=some (.dK kvs)):xU K H (.ref a) (.type "dict")
 | dT {a:Addr} {kvs:List (List Key × V)} (e:H a=some (.dT kvs)):xU K H (.ref a) (.type "dict")
 | ins {a C dx:Addr} {fs:List (Str × V)} (e:H a=some (.ins C dx fs)) (cl:Cls K C) (ha:PySem.W.findIn K (.ref C) "__class__" = some (some (.builtin "object.__class__")))
   (hn:PySem.W.specialIn K (.builtin "object.__class__") "__get__" = some (some (.builtin "getset_descriptor.__get__"))) (htk:PySem.W.takesIn K (.builtin "object.__class__")=some true)
   (hm:PySem.W.mroIn K C (.type "object")=some true):xU K H (.ref a) (.ref C)
end
end L2
namespace L2
open PySem PySem.Spec PyProof.Rows
structure jw (k:Nat) (A:Around):Prop where
 hd:A.handled=none
 dp:A.depth+3 * k+5 < recursionLimit
 un:A.units+16 * k+200 < cLine
theorem jw.mono {j k:Nat} {A:Around} (r:jw k A) (h:j≤k):jw j A:=⟨r.hd,by have:=r.dp; omega,by have:=r.un; omega⟩
theorem jw.deeper {k:Nat} {A:Around} (r:jw (k+1) A) (env:Env):jw k (A.deeper env) :=
 ⟨r.hd,by have:=r.dp; show A.depth+1+3 * k+5 < _; omega,by have:=r.un; show A.units+3+16 * k+200 < _; omega⟩
theorem jw.depth {k:Nat} {A:Around} (r:jw k A):A.depth < recursionLimit:=by have:=r.dp; omega
theorem jw.units {k:Nat} {A:Around} (r:jw k A):A.units+64 < cLine:=by have:=r.un; omega
theorem jw.units0 {k:Nat} {A:Around} (r:jw k A):A.units < cLine:=by have:=r.un; omega
def GP:TA:=fun _ H Q=>Q [] H
def uy (ta:TE) (tr:TA):TA:=fun σ H Q=>ta σ H fun x H1=>tr σ H1 fun xs H2=>Q (x :: xs) H2
section
variable {X:Cx} {e:Expr} {es:List Expr} {te:TE} {t:TA} {pos:Pos}
theorem au:PA X [] GP:=fun _ _ _ _ H Q I h=>Calls.spliced_nil ⟨[],H,I,.nil,h⟩
theorem aj (ha:PE X e te) (hr:PA X es t) (hs:starEach (e :: es) X.env=(false,eval e X.env) :: starEach es X.env:=by rfl):PA X (e :: es) (uy te t):=by
 intro pos pins s σ H Q I h
 rw [hs]
 show wpAny _ _ (spliced ((false,eval e X.env) :: backTo pos (starEach es X.env))) _ _ s
 refine Calls.spliced_cons (thn (ha pins s σ H _ I h) fun u s1 ⟨x,H1,I1,r1,q1⟩=>?_)
 exact thn (hr pos pins s1 σ H1 _ I1 q1) fun us s2 ⟨xs,H2,I2,r2,q2⟩=>⟨x :: xs,H2,I2,.cons r1 r2,q2⟩
def Nr (t:TA):TE:=fun σ H Q=>t σ H fun xs H1=>xs.length≤sizeLine∧∀ p,H1 p=none→Q (.ref p) (upd H1 p (.tup xs))
def Mi (t:TA):TE:=fun σ H Q=>t σ H fun xs H1=>xs.length≤sizeLine∧∀ p,H1 p=none→Q (.ref p) (upd H1 p (.lst xs))
theorem cH {x1} (h:PA X es t):PE X (.Tuple es x1 pos) (Nr t):=by
 intro pins s σ H Q I hq
 refine wpAny_Tuple_spliced (thn (h pos pins s σ H _ I hq) fun us s1 ⟨xs,H1,I1,r,z,q⟩=>⟨by rw [← r.length]; exact z,?_⟩)
 have hf:H1 s1.heap.objs.size=none:=I1.hok.fresh (Nat.le_refl _)
 refine ⟨.ref s1.heap.objs.size,upd H1 s1.heap.objs.size (.tup xs),I1.laid (t':=s1.toks) (fun b u e=>Heap.get?_push_of_some _ e) (Nat.le_refl _) ?_,rfl,q _ hf⟩
 exact ⟨z,us,r,⟨_,Heap.get?_push_size _ rfl,rfl,_,rfl⟩⟩
theorem aX (h:PA X es t):PE X (.List es pos) (Mi t):=by
 intro pins s σ H Q I hq
 refine wpAny_List_spliced (thn (h pos pins s σ H _ I hq) fun us s1 ⟨xs,H1,I1,r,z,q⟩=>⟨by rw [← r.length]; exact z,?_⟩)
 have hf:H1 s1.heap.objs.size=none:=I1.hok.fresh (Nat.le_refl _)
 refine ⟨.ref s1.heap.objs.size,upd H1 s1.heap.objs.size (.lst xs),I1.laid (t':=s1.toks) (fun b u e=>Heap.get?_push_of_some _ e) (Nat.le_refl _) ?_,rfl,q _ hf⟩
 exact ⟨z,us,0,r,Heap.get?_push_size _ rfl⟩
end
abbrev Sp:=List V→Hp→VK→XK→Prop
abbrev CXT:=List Env→Hp→Shared→XK→Value→Shared→Prop
structure Je (P:Program) (w:World) (K:PySem.W.Frag) (mg:Str→Option Value) (base:Heap) (A:Around) (outer:List Env) (s:Shared) (H:Hp):Prop where
 frames:A.frames=some outer
 mod:Mod K mg base
 bs:∀ b o,base.get? b=some o→s.heap.get? b=some o∧H b=none
 bsz:base.objs.size≤s.heap.objs.size
 funs:s.heap.FunFrames base outer
 frf:∀ b∈frs outer,H b=none
 hok:HOk P w H s.heap
 bare:AllBare s.gens
def CE (outer:List Env) (P:Program) (w:World) (H:Hp) (s:Shared) (Q:VK) (u:Value) (s':Shared):Prop :=
 ∃ v H',s'.os=s.os∧AllBare s'.gens∧Un (frs outer) [] H H' s.heap s'.heap∧HOk P w H' s'.heap∧RelV v u∧Q v H'
def CR (CX:CXT) (outer:List Env) (P:Program) (w:World) (H:Hp) (s:Shared) (Q:VK) (E:XK) (r:Result) (s':Shared):Prop :=
 match r with
 | .ok (.ret u)=>CE outer P w H s Q u s'
 | .ok _=>False
 | .error e=>CX outer H s E e s'
structure m9 (P:Program) (w:World) (K:PySem.W.Frag) (mg:Str→Option Value) (base:Heap) (CX:CXT) (k:Nat) (f:Addr) (fd:FuncData) (ps:List Str) (sp:Sp):Prop where
 len:∀ vs H Q E,sp vs H Q E→vs.length=ps.length
 run:∀ (A:Around) (outer:List Env) (s:Shared) (H:Hp) (args:Args) (us:List Value) (vs:List V) (Q:VK) (E:XK),jw k A→Je P w K mg base A outer s H→BindsTo s fd args (ps.zip us)→Vals vs us→sp vs H Q E →
  codeAny (model P w) A (.call (.ref f) args) (CR CX outer P w H s Q E) s
theorem m9.mono {P:Program} {w:World} {K:PySem.W.Frag} {mg:Str→Option Value} {base:Heap} {CX:CXT} {j k:Nat} {f:Addr} {fd:FuncData} {ps:List Str} {sp:Sp} (F:m9 P w K mg base CX j f fd ps sp) (h:j≤k) :
  m9 P w K mg base CX k f fd ps sp:=⟨F.len,fun A outer s H args us vs Q E hr=>F.run A outer s H args us vs Q E (hr.mono h)⟩
theorem m9.imp {P:Program} {w:World} {K:PySem.W.Frag} {mg:Str→Option Value} {base:Heap} {CX:CXT} {k:Nat} {f:Addr} {fd:FuncData} {ps:List Str} {sp sp':Sp} (F:m9 P w K mg base CX k f fd ps sp)
  (h:∀ vs H Q E,sp' vs H Q E→sp vs H Q E):m9 P w K mg base CX k f fd ps sp' :=
 ⟨fun vs H Q E q=>F.len vs H Q E (h _ _ _ _ q),fun A outer s H args us vs Q E hr he hb hv hs=>F.run A outer s H args us vs Q E hr he hb hv (h _ _ _ _ hs)⟩
section
variable {X:Cx} {pins:List (Addr × Obj)} {σ:St} {H:Hp} {s s':Shared}
theorem Inv.env0 (I:Inv X pins σ H s):Je X.prog X.w X.K X.mg X.base X.A X.stack s H :=
 ⟨I.ok.frames,I.ok.mod,I.bs,Nat.le_trans I.ok.bsz I.sz,I.stack,I.stkFree,I.hok,I.bare⟩
theorem Inv.after {Q:VK} {u:Value} (I:Inv X pins σ H s) (h:CE X.stack X.prog X.w H s Q u s'):EP X pins σ Q u s':=by
 obtain ⟨v,H',os,bare,un,hok,r,q⟩:=h
 obtain ⟨hh,g,d,t,os'⟩:=s'
 obtain rfl:os'=s.os:=os
 exact ⟨v,H',I.call (h':=hh) (g':=g) (d':=d) (t':=t) (ch:=[]) un hok bare (fun b z=>absurd z (by simp)),r,q⟩
end
def xJ (sp:Sp) (dvs:List V) (E:XK) (t:TA):TE:=fun σ H Q=>t σ H fun vs H1=>sp (vs++dvs) H1 Q E
def Binds (K:PySem.W.Frag) (fd:FuncData) (ps:List Str) (ds:List Value):Prop :=
 ∀ (s:Shared) (us:List Value),K.In s.heap→(us++ds).length=ps.length→BindsTo s fd ⟨us,[]⟩ (ps.zip (us++ds))
theorem Binds.all {K:PySem.W.Frag} {fd:FuncData} {ps:List Str} (h:∀ us:List Value,us.length=ps.length→bindArgs fd ⟨us,[]⟩=pure (ps.zip us)):Binds K fd ps []:=fun s us _ hl=>by
 rw [List.append_nil] at hl ⊢
 exact .of_eq (h us hl)
def Passes (CX:CXT) (X:Cx) (E:XK):Prop:=∀ (pins:List (Addr × Obj)) (σ:St) (H:Hp) (s:Shared) (e:Value) (s':Shared),Inv X pins σ H s→CX X.stack H s E e s'→X.xe e s'
section
variable {X:Cx} {CX:CXT} {k:Nat} {f C:Addr} {fd:FuncData} {ps:List Str} {sp:Sp} {dvs:List V} {ds:List Value} {E:XK} {x m:Str} {p pos apos:Pos} {e o:Expr} {es:List Expr} {ta:TE} {t:TA}
theorem Eu {pins:List (Addr × Obj)} {σ:St} {H:Hp} {s:Shared} {Q:VK} {us:List Value} {vs:List V} (F:m9 X.prog X.w X.K X.mg X.base CX k f fd ps sp) (hr:jw k X.A) (hb:Binds X.K fd ps ds) (hd:Vals dvs ds) (hx:Passes CX X E)
  (I:Inv X pins σ H s) (r:Vals vs us) (h:sp (vs++dvs) H Q E):wpAny (model X.prog X.w) X.A (call (.ref f) us) (EP X pins σ Q) X.xe s:=by
 have r2:Vals (vs++dvs) (us++ds):=r.append hd
 have hl:(us++ds).length=ps.length:=by rw [← r2.length]; exact F.len _ _ _ _ h
 refine wpAny_call (codeAny_mono (F.run X.A X.stack s H ⟨us,[]⟩ (us++ds) (vs++dvs) Q E hr I.env0 (hb s us I.kIn hl) r2 h) fun r s' hq=>?_)
 cases r with
 | error e=>exact hx pins σ H s e s' I hq
 | ok fl =>
  cases fl with
  | ret u=>exact I.after hq
  | next=>exact False.elim hq
  | brk=>exact False.elim hq
  | cont=>exact False.elim hq
theorem zq (F:m9 X.prog X.w X.K X.mg X.base CX k f fd ps sp) (hr:jw k X.A) (hg:Gl X x) (hm:X.mg x=some (.ref f)) (hk:PySem.W.keepIn X.K (.ref f)=true) (hb:Binds X.K fd ps ds) (hd:Vals dvs ds) (hx:Passes CX X E)
  (ha:PA X (e :: es) t) (hdb:(x == ("__debug__" : Str))=false:=by decide) (he:starEach (e :: es) X.env=(false,eval e X.env) :: starEach es X.env:=by rfl) (hpl:(backTo pos (starEach es X.env)).any (·.1)=false:=by rfl) :
  PE X (.Call (.Name x p) (e :: es) [] pos) (xJ sp dvs E t):=by
 intro pins s σ H Q I h
 refine wpAny_Call_Name_kw (kj I hg hm ?_ hdb)
 refine PySem.W.callWith_K (h₀:=X.base) I.ok.mod.kin hk (thn (ha pos pins s σ H _ I h) fun us s1 ⟨vs,H1,I1,r,q⟩=>⟨I1.kIn,?_⟩) he hpl
 exact Eu F hr hb hd hx I1 r q
theorem Dc (F:m9 X.prog X.w X.K X.mg X.base CX k f fd ps sp) (hr:jw k X.A) (hg:Gl X x) (hm:X.mg x=some (.ref f)) (hk:PySem.W.keepIn X.K (.ref f)=true) (hb:Binds X.K fd ps ds) (hd:Vals dvs ds) (hx:Passes CX X E)
  (hdb:(x == ("__debug__" : Str))=false:=by decide):PE X (.Call (.Name x p) [] [] pos) (xJ sp dvs E GP):=by
 intro pins s σ H Q I h
 refine wpAny_Call_Name_kw (kj I hg hm ?_ hdb)
 exact PySem.W.callWith_K0 I.kIn hk (Eu (us:=[]) F hr hb hd hx I .nil h)
structure Mk (K:PySem.W.Frag) (C f:Addr):Prop where
 makes:PySem.W.makesIn K C=true
 init:PySem.W.findIn K (.ref C) "__init__" = some (some (.ref f))
 fn:PySem.W.isFn K (.ref f)=true
 kp:PySem.W.keepIn K (.ref C)=true
end
section
variable {X:Cx} {CX:CXT} {k:Nat} {f C:Addr} {fd:FuncData} {ps ks:List Str} {sp:Sp} {E:XK} {x m:Str} {p pos apos kpos:Pos} {e o:Expr} {es:List Expr} {kws:List Keyword} {te ta:TE} {t tk:TA} {nm:Option Str}
structure Mr (K:PySem.W.Frag) (fd:FuncData) (ps ks:List Str) (g:List Value→List Value→List Value) (gV:List V→List V→List V):Prop where
 to:∀ (s:Shared) (us ws:List Value),K.In s.heap→(g us ws).length=ps.length→BindsTo s fd ⟨us,ks.zip ws⟩ (ps.zip (g us ws))
 rel:∀ {vs:List V} {us:List Value} {zs:List V} {ws:List Value},Vals vs us→Vals zs ws→Vals (gV vs zs) (g us ws)
variable {g:List Value→List Value→List Value} {gV:List V→List V→List V}
end
structure aK (N P:List Str) (sc:Scope):Prop where
 kind:sc.kind=.function
 co:sc.isCoroutine=false
 gen:sc.isGenerator=false
 nd:N.Nodup
 pre:N.take P.length=P
 par:∀ x∈P,sc.names.lookup x=some .local∨sc.names.lookup x=some .cell
 nofree:∀ y∈sc.names,y.2≠.free
theorem sI {kindOf:Str→Option NameKind} {x:Str}:∀ {binds:List (Str × Value)} {m:Str→Option Value},(∀ v,(x,v) ∉ binds)→bindL kindOf binds m x=m x
 | [],_,_=>rfl
 | (n,v) :: r,m,h=>by
  unfold bindL
  rw [sI fun w hw=>h w (List.mem_cons_of_mem _ hw)]
  split
  ·have:x≠n:=by rintro rfl; exact h v List.mem_cons_self
   simp [this]
  ·rfl
theorem qT {kindOf:Str→Option NameKind} {x:Str}:∀ {binds:List (Str × Value)} {m:Str→Option Value},(∀ v,(x,v) ∉ binds)→bindC kindOf binds m x=m x
 | [],_,_=>rfl
 | (n,v) :: r,m,h=>by
  unfold bindC
  rw [qT fun w hw=>h w (List.mem_cons_of_mem _ hw)]
  split
  ·rfl
  ·have:x≠n:=by rintro rfl; exact h v List.mem_cons_self
   simp [this]
theorem rz {kindOf:Str→Option NameKind} {x:Str} {v:Value}:∀ {P:List Str} {vs:List Value} {i:Nat} {m:Str→Option Value},P.Nodup→P[i]?=some x→vs[i]?=some v→kindOf x=some .local →
  bindL kindOf (P.zip vs) m x=some v
 | [],_,_,_,_,h,_,_=>by simp at h
 | _ :: _,[],_,_,_,_,h,_=>by simp at h
 | p :: P,w :: vs,0,m,nd,h1,h2,hk=>by
  simp at h1 h2; subst h1; subst h2
  show bindL kindOf ((p,w) :: P.zip vs) m p=_
  unfold bindL
  rw [sI fun v hv=>(List.nodup_cons.mp nd).1 (List.of_mem_zip hv).1,if_pos hk]
  simp
 | p :: P,w :: vs,i+1,m,nd,h1,h2,hk=>by
  show bindL kindOf ((p,w) :: P.zip vs) m x=_
  unfold bindL
  exact rz (i:=i) (List.nodup_cons.mp nd).2 (by simpa using h1) (by simpa using h2) hk
theorem qL {kindOf:Str→Option NameKind} {x:Str} {v:Value}:∀ {P:List Str} {vs:List Value} {i:Nat} {m:Str→Option Value},P.Nodup→P[i]?=some x→vs[i]?=some v→kindOf x≠some .local →
  bindC kindOf (P.zip vs) m x=some v
 | [],_,_,_,_,h,_,_=>by simp at h
 | _ :: _,[],_,_,_,_,h,_=>by simp at h
 | p :: P,w :: vs,0,m,nd,h1,h2,hk=>by
  simp at h1 h2; subst h1; subst h2
  show bindC kindOf ((p,w) :: P.zip vs) m p=_
  unfold bindC
  rw [qT fun v hv=>(List.nodup_cons.mp nd).1 (List.of_mem_zip hv).1,if_neg hk]
  simp
 | p :: P,w :: vs,i+1,m,nd,h1,h2,hk=>by
  show bindC kindOf ((p,w) :: P.zip vs) m x=_
  unfold bindC
  exact qL (i:=i) (List.nodup_cons.mp nd).2 (by simpa using h1) (by simpa using h2) hk
def start (N:List Str) (vs:List V):St:=vs.map some++List.replicate (N.length - vs.length) none
def uK (CX:CXT) (P:Program) (w:World) (K:PySem.W.Frag) (mg:Str→Option Value) (base:Heap) (N:List Str) (qual:Str) (scope:Scope) (f:Addr) (cd:Value) (A:Around) (outer:List Env) (s:Shared) (H:Hp) (E:XK):Cx where
 prog:=P
 w:=w
 K:=K
 mg:=mg
 base:=base
 A:=A.deeper (envOfC qual scope s.heap.objs.size f cd)
 N:=N
 s₀:=s
 H₀:=H
 env:=envOfC qual scope s.heap.objs.size f cd
 outer:=outer
 stack:=envOfC qual scope s.heap.objs.size f cd :: outer
 ex:=[]
 calm:=true
 fn:=fun _=>true
 pn:=[]
 xe:=fun e s'=>wpAny (model P w) (A.deeper (envOfC qual scope s.heap.objs.size f cd)) (leaving (envOfC qual scope s.heap.objs.size f cd) e) (fun _ s''=>CX outer H s E e s'') (fun e' s''=>CX outer H s E e' s'') s'
theorem u6 {sc:Scope} {n:Nat} {x:Str} (h:sc.names.lookup x=some .cell):∃ c,(cellsFrom n sc.names []).lookup x=some c:=by
 have q:=PySem.W.cellsFrom_some sc.names n [] (.inl h)
 exact Option.isSome_iff_exists.mp q
theorem Bh {CX:CXT} {P:Program} {w:World} {K:PySem.W.Frag} {mg:Str→Option Value} {base:Heap} {N ps:List Str} {qual:Str} {scope:Scope} {f:Addr} {cd:Value} {A:Around} {outer:List Env} {s s1:Shared} {H:Hp} {E:XK} {us:List Value} {vs:List V}
  (S:aK N ps scope) (hd:A.handled=none) (e0:Je P w K mg base A outer s H) (hl:vs.length=ps.length) (r:Vals vs us)
  (x:InCallC s s.heap.objs.size (bindL (envOfC qual scope s.heap.objs.size f cd).kindOf (ps.zip us) fun _=>none) (cellsFrom (s.heap.objs.size+1) scope.names []) (bindC (envOfC qual scope s.heap.objs.size f cd).kindOf (ps.zip us) fun _=>none) s1) :
  Inv (uK CX P w K mg base N qual scope f cd A outer s H E) [] (start N vs) H s1:=by
 have hpl:ps.length≤N.length:=by have:=congrArg List.length S.pre; rw [List.length_take] at this; omega
 obtain ⟨h1,tk,rfl,hk⟩:=x.done
 have noA:∀ b:Addr,b ∉ (uK CX P w K mg base N qual scope f cd A outer s H E).ex:=fun b z=>absurd (show b∈([]:List Addr) from z) (by simp)
 refine ⟨⟨e0.mod,S.kind,rfl,rfl,Nat.le_refl _,fun y z c h1 h2=>?_,fun y hy=>?_,fun y c _ h=>?_,fun _=>hd,Around.frames_deeper e0.frames,.inr ⟨rfl,rfl⟩,fun b z=>absurd z (noA b),e0.bs,e0.bsz,fun b _ _=>noA b,fun b z=>absurd z (noA b),e0.funs,e0.frf⟩,
  rfl,e0.bare,Un.kept hk,⟨_,x.toInCall.ns,fun i y v h1 h2 h3=>?_⟩,fun y c h=>⟨_,x.cell y c h⟩,e0.hok.fresh (Nat.le_refl _),fun y c h=>?_,fun p hp=>absurd (show p∈([]:List (Addr × Obj)) from hp) (by simp),e0.hok.kept hk,?_⟩
 ·exact name_of_addr x.apart (PySem.mem_of_lookup h1) (PySem.mem_of_lookup h2)
 ·have hy:scope.names.lookup y=some .cell∨scope.names.lookup y=some .free:=hy
  rcases hy with hy | hy
  ·exact u6 hy
  ·exact absurd rfl (S.nofree _ (PySem.mem_of_lookup hy))
 ·exact Nat.le_of_lt (x.above y c (PySem.mem_of_lookup h))
 ·have hi:i < vs.length:=by
   unfold start at h2
   by_cases hi:i < vs.length
   ·exact hi
   ·rw [List.getElem?_append_right (by simpa using hi)] at h2
    rw [List.getElem?_replicate] at h2
    split at h2 <;> cases h2
  have ha:vs[i]?=some v:=by
   unfold start at h2
   rw [List.getElem?_append_left (by simpa using hi),List.getElem?_map] at h2
   cases e:vs[i]? with
   | none=>rw [e] at h2; cases h2
   | some a=>rw [e] at h2; cases h2; rfl
  obtain ⟨u,hu,rv⟩:=r.get ha
  have hp:ps[i]?=some y:=by
   rw [← S.pre,List.getElem?_take_of_lt (by omega)]; exact h1
  have ndP:ps.Nodup:=by rw [← S.pre]; exact S.nd.sublist (List.take_sublist _ _)
  refine ⟨u,rv,?_⟩
  rcases S.par y (List.mem_of_getElem? hp) with k | k
  ·exact .inl ⟨k,rz ndP hp hu k⟩
  ·obtain ⟨c,e⟩:=u6 (n:=s.heap.objs.size+1) k
   refine .inr ⟨.inl k,c,e,?_⟩
   have q:=x.cell y c e
   rw [qL ndP hp hu (by show scope.names.lookup y≠_; rw [k]; decide)] at q
   exact q
 ·exact e0.hok.fresh (Nat.le_of_lt (x.above y c (PySem.mem_of_lookup h)))
 ·unfold start
  show _=N.length
  rw [List.length_append,List.length_map,List.length_replicate]
  omega
theorem JG {CX:CXT} {P:Program} {w:World} {K:PySem.W.Frag} {mg:Str→Option Value} {base:Heap} {k:Nat} {f:Addr} {name qual:Str} {params:Arguments} {body:List Stmt} {scope:Scope} {dV kV doc pm cdv ct oc:Value} {an od:Option Addr}
  {osl:Array (Option Value)} {N ps:List Str} {sp:Sp} (lk:K.lookup f=some ⟨oc,od,.func (PySem.W.fnOf name qual params body scope dV kV doc pm an cdv ct),osl⟩) (hcd:PySem.W.codeIn K cdv qual=true) (S:aK N ps scope)
  (len:∀ vs H Q E,sp vs H Q E→vs.length=ps.length)
  (hbody:∀ (A:Around) (outer:List Env) (s:Shared) (H:Hp) (vs:List V) (Q:VK) (E:XK),jw k (A.deeper (envOfC qual scope s.heap.objs.size f cdv))→sp vs H Q E →
   ∃ t,PSs (uK CX P w K mg base N qual scope f cdv A outer s H E) body t∧t { nx:=fun _ H'=>Q .non H',rt:=Q } (start N vs) H) :
  m9 P w K mg base CX (k+1) f (PySem.W.fnOf name qual params body scope dV kV doc pm an cdv ct) ps sp:=by
 refine ⟨len,fun A outer s H args us vs Q E hr e0 hb r hsp=>?_⟩
 have hl:=len _ _ _ _ hsp
 have KX:K.In s.heap:=e0.mod.kin.keeps fun b o e=>(e0.bs b o e).1
 have lim:s.heap.NoLimit:=e0.mod.nolimit.keeps fun b o e=>(e0.bs b o e).1
 have hkind:∀ y∈ps.zip us,scope.names.lookup y.1=some .local∨(scope.names.lookup y.1=some .cell∧((cellsFrom (s.heap.objs.size+1) scope.names []).lookup y.1).isSome=true):=fun ⟨n,v⟩ hy=>by
  rcases S.par n (List.of_mem_zip hy).1 with q | q
  ·exact .inl q
  ·exact .inr ⟨q,PySem.W.cellsFrom_some _ _ _ (.inl q)⟩
 refine codeAny_call_function hr.depth (KX _ _ lk) rfl S.co S.gen rfl (PySem.W.codeRec_of KX hcd) (hb _ _ _ _ ?_)
 refine wpAny_newFunctionEnv_cells S.kind hkind fun env he s1 x=>?_
 subst he
 refine ⟨lim.keeps x.toInCall.keep,codeAny_func ?_⟩
 obtain ⟨t,ht,hq⟩:=hbody A outer s H vs Q E (hr.deeper _) hsp
 have I:Inv (uK CX P w K mg base N qual scope f cdv A outer s H E) [] (start N vs) H s1:=Bh S hr.hd e0 hl r x
 refine wpAny_mono (ht [] s1 (start N vs) H _ I hq) (fun fl s' hs=>?_) fun e s' hs=>hs
 have fin:∀ {σ':St} {H':Hp} {v:V} {u:Value},Inv (uK CX P w K mg base N qual scope f cdv A outer s H E) [] σ' H' s'→RelV v u→Q v H'→CE outer P w H s Q u s' :=
  fun {σ' H' v u} J rv q=>⟨v,H',J.os,J.bare,J.base,J.hok,rv,q⟩
 cases fl with
 | ret u =>
  obtain ⟨v,σ',H',J,rv,q⟩:=hs
  exact fin J rv q
 | next =>
  obtain ⟨σ',H',J,q⟩:=hs
  exact fin (v:=V.non) (u:=Value.none) J rfl q
 | brk =>
  obtain ⟨_,_,_,q⟩:=hs
  exact False.elim q
 | cont =>
  obtain ⟨_,_,_,q⟩:=hs
  exact False.elim q
end L2
namespace L2
open PySem PySem.Spec PyProof.Rows
section
variable {X:Cx} {x:Str} {p pos:Pos} {e:Expr} {es:List Expr} {t:TA} {id T:String} {r:List V→Hp→VK→Prop}
def tCB (r:List V→Hp→VK→Prop) (t:TA):TE:=fun σ H Q=>t σ H fun vs H1=>r vs H1 Q
theorem bH (hc:jt X (.builtin id) r) (hg:Gl X x) (hm:X.mg x=none) (hv:bootBuiltins x=some (.builtin id)) (ha:PA X (e :: es) t) (hn:x ≠ "__name__":=by decide) (hdb:(x == ("__debug__" : Str))=false:=by decide)
  (he:starEach (e :: es) X.env=(false,eval e X.env) :: starEach es X.env:=by rfl) (hpl:(backTo pos (starEach es X.env)).any (·.1)=false:=by rfl):PE X (.Call (.Name x p) (e :: es) [] pos) (tCB r t):=by
 intro pins s σ H Q I h
 refine wpAny_Call_Name_kw (uY I hg hm hv ?_ hn hdb)
 exact PyProof.Rows.callWith_builtin1 (thn (ha pos pins s σ H _ I h) fun us s1 ⟨vs,H1,I1,r1,q1⟩=>hc pins s1 σ H1 vs us Q I1 r1 q1) he hpl
theorem cD (hc:jt X (.type T) r) (hg:Gl X x) (hm:X.mg x=none) (hv:bootBuiltins x=some (.type T)) (ha:PA X (e :: es) t) (hn:x ≠ "__name__":=by decide) (hdb:(x == ("__debug__" : Str))=false:=by decide)
  (he:starEach (e :: es) X.env=(false,eval e X.env) :: starEach es X.env:=by rfl) (hpl:(backTo pos (starEach es X.env)).any (·.1)=false:=by rfl):PE X (.Call (.Name x p) (e :: es) [] pos) (tCB r t):=by
 intro pins s σ H Q I h
 refine wpAny_Call_Name_kw (uY I hg hm hv ?_ hn hdb)
 exact PyProof.Rows.callWith_type1 (thn (ha pos pins s σ H _ I h) fun us s1 ⟨vs,H1,I1,r1,q1⟩=>hc pins s1 σ H1 vs us Q I1 r1 q1) he hpl
end
end L2
namespace HT
open PySem PyProof.Rows
section
open PySem.SeqAt
open PySem.AutoSeq1 (wpAny_loadPart')
open PySem.MeetsSeq PySem.MeetsSeq2 PySem.MeetsSeq3
end
section
variable {prog:Program} {w:World} {A:Around} {E:Value→Shared→Prop} {s:Shared}
theorem Ag {t b:Addr} {vs ws:List Value} {Q:Value→Shared→Prop} (ht:IsTup s.heap t vs.toArray) (hb:IsTup s.heap b ws.toArray) (hv:vs≠[])
  (h1:ws=[]→Q (.ref t) s) (h2:ws≠[]→Q (.ref s.heap.objs.size) { s with heap:=s.heap.push { cls:=.type "tuple",data:=.seq (vs++ws).toArray } })
  (hsz:vs.length+ws.length≤sizeLine):wpAny (model prog w) A (binaryOp .Add (.ref t) (.ref b)) Q E s:=by
 obtain ⟨⟨cls,dd,data,sl⟩,ho,hc,n,hd⟩:=id ht
 obtain ⟨⟨cls2,dd2,data2,sl2⟩,ho2,hc2,n2,hd2⟩:=id hb
 simp only at hc hd hc2 hd2
 subst hc hd hc2 hd2
 have e:vs.toArray++ws.toArray=(vs++ws).toArray:=by simp
 by_cases hw:ws=[]
 ·exact concat_meets ⟨_,ho,rfl⟩ ⟨_,ho2,rfl⟩ noFill_tuple_add seq_tuple_add PySem.F.slot_tuple_add PySem.F.entry_tuple_add (PySem.F.args_tuple_add_2 _ _)
   (tuple_addW1 t b vs.toArray ws.toArray n n2 dd dd2 sl sl2 (by simpa using hv) (by simp [hw])) ⟨ho,ho2,h1 hw⟩
 ·refine concat_meets ⟨_,ho,rfl⟩ ⟨_,ho2,rfl⟩ noFill_tuple_add seq_tuple_add PySem.F.slot_tuple_add PySem.F.entry_tuple_add (PySem.F.args_tuple_add_2 _ _)
   (tuple_addW2 t b vs.toArray ws.toArray n n2 dd dd2 sl sl2 (by simpa using hv) (by simpa using hw) (by rw [List.size_toArray,List.size_toArray]; exact hsz)) ⟨ho,ho2,?_⟩
  rw [e]
  exact h2 hw
def sIx (n d:Nat):Option Int→Nat
 | none=>d
 | some v=>if v < 0 then (v+(n:Int)).toNat else min v.toNat n
theorem vI (n d:Nat):sIx n d none=d:=rfl
theorem yu (n d k:Nat):sIx n d (some (k:Int))=min k n:=by
 show (if (k:Int) < 0 then ((k:Int)+(n:Int)).toNat else min (k:Int).toNat n)=min k n
 rw [if_neg (by omega),Int.toNat_natCast]
theorem Jp (n d:Nat) (hd:d≤n) (o:Option Int):sIx n d o≤n:=by
 cases o with
 | none=>exact hd
 | some v =>
  show (if v < 0 then (v+(n:Int)).toNat else min v.toNat n)≤n
  by_cases hv:v < 0
  ·rw [if_pos hv]; omega
  ·rw [if_neg hv]; exact Nat.min_le_right _ _
theorem zA (v:Int) (n d:Nat):(if v < 0 then max (v+(n:Int)) 0 else min v (n:Int))=((sIx n d (some v):Nat):Int):=by
 show (if v < 0 then max (v+(n:Int)) 0 else min v (n:Int))=(((if v < 0 then (v+(n:Int)).toNat else min v.toNat n):Nat):Int)
 by_cases hv:v < 0
 ·simp only [if_pos hv]; omega
 ·simp only [if_neg hv]; omega
theorem wU (lo hi:Option Int) (n:Nat):Builtin.Slice.sliceAdjust lo hi 1 (n:Int)=(((sIx n 0 lo:Nat):Int),((sIx n n hi:Nat):Int)):=by
 have h1:¬ ((1:Int) < 0):=by omega
 unfold Builtin.Slice.sliceAdjust
 simp only [h1,if_false]
 refine Prod.ext ?_ ?_
 ·cases lo with
  | none=>rfl
  | some v=>exact zA v n 0
 ·cases hi with
  | none=>rfl
  | some v=>exact zA v n n
theorem wY (i j:Nat):Builtin.Slice.slicePlaces (i:Int) (j:Int) 1=j - i:=by
 unfold Builtin.Slice.slicePlaces
 have h1:(1:Int) > 0:=by omega
 simp only [h1,if_true,Int.ediv_one]
 split <;> omega
theorem oF {v:Value} {o:Option Int} {Q:Option Int→Shared→Prop} (p:IsPart v o) (h:Q o s):wpAny (model prog w) A (Builtin.Slice.slicePartIndex v) Q E s:=by
 cases p with
 | none=>exact slicePart_none h
 | int i t=>exact slicePart_int h
theorem gG {sl:Addr} {vl vu:Value} {lo hi:Option Int} {n:Nat} {Q:Int × Int × Nat→Shared→Prop} (hs:s.heap.IsSliceOf sl vl vu .none) (pl:IsPart vl lo) (pu:IsPart vu hi)
  (h:Q (((sIx n 0 lo:Nat):Int),1,sIx n n hi - sIx n 0 lo) s):wpAny (model prog w) A (Builtin.Slice.sliceApplied (.ref sl) (pure (n:Int))) Q E s:=by
 obtain ⟨os,hos,hcs,hds⟩:=id hs
 unfold Builtin.Slice.sliceApplied Builtin.Slice.sliceFields
 refine wpAny_bind (wpAny_bind (wpAny_field hos hds (x:=vl) rfl (wpAny_bind (wpAny_field hos hds (x:=vu) rfl (wpAny_bind (wpAny_field hos hds (x:=.none) rfl (wpAny_pure ?_)))))))
 refine wpAny_bind (slicePart_none ?_)
 show wpAny _ _ (if ((1:Int) == 0)=true then _ else _) _ _ s
 rw [if_neg (by decide)]
 refine wpAny_bind (oF pl (wpAny_bind (oF pu (wpAny_bind (wpAny_pure ?_)))))
 show wpAny _ _ (match Builtin.Slice.sliceAdjust lo hi 1 (n:Int) with | (lo,hi)=>pure (lo,(1:Int),Builtin.Slice.slicePlaces lo hi 1)) _ _ s
 rw [wU lo hi n]
 show wpAny _ _ (pure (((sIx n 0 lo:Nat):Int),(1:Int),Builtin.Slice.slicePlaces ((sIx n 0 lo:Nat):Int) ((sIx n n hi:Nat):Int) 1)) _ _ s
 rw [wY]
 exact wpAny_pure h
theorem Ca (xs:Array Value) (i k:Nat):((List.range k).filterMap fun (m:Nat)=>xs[((i:Int)+(m:Int) * 1).toNat]?).toArray=((xs.toList.drop i).take k).toArray:=by
 have e:(fun (m:Nat)=>xs[((i:Int)+(m:Int) * 1).toNat]?)=fun m=>xs[i+m]?:=by
  funext m
  have:((i:Int)+(m:Int) * 1).toNat=i+m:=by omega
  rw [this]
 rw [e]
 have:=pick_run xs i k
 rw [List.filterMap_map] at this
 have e2:((fun x=>xs[x]?) ∘ fun x=>i+x)=fun m=>xs[i+m]?:=rfl
 rw [e2] at this
 rw [this]
theorem jZ {t sl:Addr} {items:Array Value} {vl vu:Value} {lo hi:Option Int} {Q:Value→Shared→Prop} (ht:IsTup s.heap t items) (hs:s.heap.IsSliceOf sl vl vu .none) (pl:IsPart vl lo) (pu:IsPart vu hi)
  (hw:¬ (sIx items.size 0 lo=0∧sIx items.size items.size hi=items.size))
  (h:Q (.ref s.heap.objs.size) { s with heap:=s.heap.push { cls:=.type "tuple",data:=.seq ((items.toList.drop (sIx items.size 0 lo)).take (sIx items.size items.size hi - sIx items.size 0 lo)).toArray } })
  (hsz:items.size≤sizeLine):wpAny (model prog w) A (getItem (.ref t) (.ref sl)) Q E s:=by
 have htake:sizeOk (.seq ((items.toList.drop (sIx items.size 0 lo)).take (sIx items.size items.size hi - sIx items.size 0 lo)).toArray):=by
  show ((items.toList.drop (sIx items.size 0 lo)).take (sIx items.size items.size hi - sIx items.size 0 lo)).toArray.size≤sizeLine
  rw [List.size_toArray,List.length_take,List.length_drop,Array.length_toList]
  omega
 have hj:sIx items.size items.size hi≤items.size:=Jp _ _ (Nat.le_refl _) hi
 obtain ⟨os,hos,hcs,hds⟩:=id hs
 have hTs:s.TypeIs (.ref sl) "slice":=⟨os,hos,hcs⟩
 unfold getItem
 try with_reducible refine wpAny_holding ?_
 first | refine wpAny_bind (wpAny_pure ?_) | skip
 refine wpAny_bind (wpAny_sequenceKey ht.typeIs (by decide) ?_)
 refine wpAny_bind (wpAny_callSpecial?_slot (name:=Str.ofString "__getitem__") ht.typeIs PyProof.Rows.slot_tuple_getitem
  (wpAny_call_entry PyProof.Rows.slot_tuple_getitem ht.typeIs entry_tuple_getitem ?_ (args_tuple_getitem _ _)))
 show wpAny _ _ (Builtin.Tuple.tupleItemsOf (.ref t) >>= _) _ _ s
 refine wpAny_bind (tupleItemsOf_ ht ?_)
 refine wpAny_bind (wpAny_typeOf hTs ?_)
 rw [if_pos (by decide)]
 refine wpAny_bind (gG hs pl pu ?_)
 have hno:¬ ((((sIx items.size 0 lo:Nat):Int) == 0 && (1:Int) == 1 && (sIx items.size items.size hi - sIx items.size 0 lo) == items.size)=true):=by
  intro q
  rw [Bool.and_eq_true,Bool.and_eq_true] at q
  have q1:((sIx items.size 0 lo:Nat):Int)=0:=eq_of_beq q.1.1
  have q2:sIx items.size items.size hi - sIx items.size 0 lo=items.size:=eq_of_beq q.2
  exact hw ⟨by omega,by omega⟩
 show wpAny _ _ (if (((sIx items.size 0 lo:Nat):Int) == 0 && (1:Int) == 1 && (sIx items.size items.size hi - sIx items.size 0 lo) == items.size)=true then _ else _) _ _ s
 rw [if_neg hno,Ca]
 first
  | exact wpAny_bind (m:=Builtin.Tuple.tupleExact _) (wpAny_newObj_type (wpAny_pure ⟨_,rfl,wpAny_pure h⟩) htake)
  | exact wpAny_bind (m:=Builtin.Tuple.tupleExact _) (wpAny_newObj_type (wpAny_bind (wpAny_pure (wpAny_pure ⟨_,rfl,wpAny_pure h⟩))) htake)
  | exact wpAny_bind (wpAny_bind (m:=Builtin.Tuple.tupleExact _) (wpAny_newObj_type (wpAny_pure (wpAny_pure ⟨_,rfl,wpAny_pure h⟩)) htake))
  | exact wpAny_bind (wpAny_bind (m:=Builtin.Tuple.tupleExact _) (wpAny_newObj_type (wpAny_pure ⟨_,rfl,wpAny_pure h⟩) htake))
end
end HT
namespace L2
open PySem PySem.Spec PyProof.Rows
abbrev TO:=St→Hp→(Option Int→Hp→Prop)→Prop
def PO (X:Cx) (e:Option Expr) (t:TO):Prop :=
 ∀ (pins:List (Addr × Obj)) (s:Shared) (σ:St) (H:Hp) (Q:Option Int→Hp→Prop),Inv X pins σ H s→t σ H Q →
  wpAny (model X.prog X.w) X.A (evalPart e X.env) (fun u s'=>∃ o H',Inv X pins σ H' s'∧IsPart u o∧Q o H') X.xe s
def GC:TO:=fun _ H Q=>Q none H
def K7 (t:TE):TO:=fun σ H Q=>t σ H fun x H1=>∃ i,x=.int i∧Q (some i) H1
section
variable {X:Cx} {e:Expr} {te:TE} {lo hi:Option Expr} {tl th:TO} {pos p2:Pos}
theorem iH:PO X none GC:=by
 intro pins s σ H Q I h
 rw [evalPart_none]
 exact wpAny_pure ⟨none,H,I,.none,h⟩
theorem g8 (h:PE X e te):PO X (some e) (K7 te):=by
 intro pins s σ H Q I hw
 rw [evalPart_some]
 refine thn (h pins s σ H _ I hw) fun u s1 ⟨x,H1,I1,r1,q1⟩=>?_
 obtain ⟨i,rfl,q⟩:=q1
 obtain ⟨t,rfl⟩:=r1
 exact ⟨some i,H1,I1,.int i t,q⟩
def SlR (X:Cx) (r:V→Option Int→Option Int→Hp→VK→Prop):Prop :=
 ∀ (pins:List (Addr × Obj)) (s:Shared) (σ:St) (H:Hp) (x:V) (v vl vu:Value) (lo hi:Option Int) (sl:Addr) (Q:VK),Inv X pins σ H s→RelV x v→s.heap.IsSliceOf sl vl vu .none→IsPart vl lo→IsPart vu hi→r x lo hi H Q →
  ∃ T id,typeLookup (.type T) "__getitem__" = pure (some (.builtin id))∧s.TypeIs v T∧wpAny (model X.prog X.w) X.A (getItem v (.ref sl)) (EP X pins σ Q) X.xe s
theorem SlR.or {r r':V→Option Int→Option Int→Hp→VK→Prop} (h:SlR X r) (h':SlR X r'):SlR X (fun x lo hi H Q=>r x lo hi H Q∨r' x lo hi H Q):=by
 intro pins s σ H x v vl vu lo hi sl Q I rx hs pl pu q
 rcases q with q | q
 ·exact h pins s σ H x v vl vu lo hi sl Q I rx hs pl pu q
 ·exact h' pins s σ H x v vl vu lo hi sl Q I rx hs pl pu q
def tSl (r:V→Option Int→Option Int→Hp→VK→Prop) (te:TE) (tl th:TO):TE:=fun σ H Q=>te σ H fun x H1=>tl σ H1 fun l H2=>th σ H2 fun u H3=>r x l u H3 Q
theorem eZ {r:V→Option Int→Option Int→Hp→VK→Prop} (hr:SlR X r) (he:PE X e te) (hl:PO X lo tl) (hu:PO X hi th):PE X (.Subscript e (.Slice lo hi none p2) pos) (tSl r te tl th):=by
 intro pins s σ H Q I h
 refine Subscript_ (thn (he pins s σ H _ I h) fun v s1 ⟨x,H1,I1,r1,q1⟩=>?_)
 refine wpAny_Slice (thn (hl pins s1 σ H1 _ I1 q1) fun vl s2 ⟨l,H2,I2,pl,q2⟩=>thn (hu pins s2 σ H2 _ I2 q2) fun vu s3 ⟨u,H3,I3,pu,q3⟩=>?_)
 rw [evalPart_none]
 refine wpAny_pure ?_
 have I4:Inv X pins σ H3 { s3 with heap:=s3.heap.push { cls:=.type "slice",data:=.fields #[vl,vu,.none] } }:=I3.kept (t':=s3.toks) fun b ob q=>Heap.get?_push_of_some _ q
 obtain ⟨T,id,hT,ht,hg⟩:=hr pins { s3 with heap:=s3.heap.push { cls:=.type "slice",data:=.fields #[vl,vu,.none] } } σ H3 x v vl vu l u s3.heap.objs.size Q I4 r1 (Heap.IsSliceOf.new ..) pl pu q3
 show wpAny (model X.prog X.w) X.A (subscriptTail e (.Slice lo hi none p2) v (.ref s3.heap.objs.size)) (EP X pins σ Q) X.xe { s3 with heap:=s3.heap.push { cls:=.type "slice",data:=.fields #[vl,vu,.none] } }
 exact tail_any (ops:=[.ref s3.heap.objs.size,v]) ht hT hg (by with_unfolding_all rfl)
def uP (xs:List V) (lo hi:Option Int):List V:=(xs.drop (HT.sIx xs.length 0 lo)).take (HT.sIx xs.length xs.length hi - HT.sIx xs.length 0 lo)
theorem mO (xs:List V) (lo hi:Option Int):(uP xs lo hi).length≤xs.length:=by
 unfold uP
 rw [List.length_take,List.length_drop]
 omega
def Ni (K:PySem.W.Frag):V→Option Int→Option Int→Hp→VK→Prop:=fun x lo hi H Q=>∃ a xs,x=.ref a∧SqT K H a xs ∧
 ¬ (HT.sIx xs.length 0 lo=0∧HT.sIx xs.length xs.length hi=xs.length)∧∀ p,H p=none→Q (.ref p) (upd H p (.tup (uP xs lo hi)))
theorem HS:SlR X (Ni X.K):=by
 intro pins s σ H x v vl vu lo hi sl Q I rx hs pl pu h
 obtain ⟨a,xs,rfl,hx,hw,q⟩:=h
 cases rx
 obtain ⟨its,r,ht,hz⟩:=I.tuple hx
 have hlen:its.toArray.size=xs.length:=by rw [List.size_toArray]; exact r.length.symm
 refine ⟨"tuple",_,PyProof.Rows.slot_tuple_getitem.lookup,ht.typeIs,?_⟩
 refine HT.jZ ht hs pl pu (by rw [hlen]; exact hw) ?_ (by rw [hlen]; exact hz)
 rw [hlen]
 refine ⟨.ref s.heap.objs.size,_,I.laid (t':=s.toks) (o:=.tup (uP xs lo hi)) (fun b ob q=>Heap.get?_push_of_some _ q) (Nat.le_refl _) ?_,rfl,q _ (I.hok.fresh (Nat.le_refl _))⟩
 exact ⟨Nat.le_trans (mO xs lo hi) hz,_,(r.drop (HT.sIx xs.length 0 lo)).take (HT.sIx xs.length xs.length hi - HT.sIx xs.length 0 lo),IsTup.new _ _⟩
def K5 (K:PySem.W.Frag):R2:=fun x y H Q=>∃ a b xs ys,x=.ref a∧y=.ref b∧SqT K H a xs∧SqT K H b ys∧xs≠[]∧xs.length+ys.length≤sizeLine ∧
 (ys=[]→Q (.ref a) H)∧(ys≠[]→∀ p,H p=none→Q (.ref p) (upd H p (.tup (xs++ys))))
theorem Vals.nil_iff {xs:List V} {us:List Value} (r:Vals xs us):us=[]↔xs=[]:=by
 cases r with
 | nil=>simp
 | cons _ _=>simp
theorem zK:OpR X (binaryOp .Add) (K5 X.K):=by
 intro pins s σ H x y v u Q I rx ry h
 obtain ⟨a,b,xs,ys,rfl,rfl,ha,hb,hx,hz,q1,q2⟩:=h
 cases rx
 cases ry
 obtain ⟨its,r1,p1,_⟩:=I.tuple ha
 obtain ⟨its2,r2,p2,_⟩:=I.tuple hb
 refine HT.Ag p1 p2 (fun z=>hx (r1.nil_iff.mp z)) (fun z=>⟨.ref a,H,I,rfl,q1 (r2.nil_iff.mp z)⟩) (fun z=>?_) (by rw [← r1.length,← r2.length]; exact hz)
 refine ⟨.ref s.heap.objs.size,_,I.laid (t':=s.toks) (o:=.tup (xs++ys)) (fun b ob q=>Heap.get?_push_of_some _ q) (Nat.le_refl _) ?_,rfl,q2 (fun w=>z (r2.nil_iff.mpr w)) _ (I.hok.fresh (Nat.le_refl _))⟩
 exact ⟨by rw [List.length_append]; exact hz,_,r1.append r2,IsTup.new _ _⟩
end
end L2
namespace L2
open PySem PySem.Spec PyProof.Rows
def ixN (n:Nat) (i:Int):Option Nat:=if 0≤i then (if i < n then some i.toNat else none) else if -(n:Int)≤i then some (i+n).toNat else none
def atI {α:Type} (xs:List α) (i:Int):Option α:=(ixN xs.length i).bind fun j=>xs[j]?
theorem FJ {n:Nat} {i:Int} {j:Nat} (h:ixN n i=some j):seqIndex? i n=some j∧j < n∧-(n:Int)≤i∧i < n:=by
 unfold ixN at h
 by_cases h0:0≤i
 ·rw [if_pos h0] at h
  by_cases h1:i < n
  ·rw [if_pos h1] at h
   have e:i.toNat=j:=Option.some.inj h
   exact ⟨by rw [seqIndex_of h0 h1,e],by omega,by omega,h1⟩
  ·rw [if_neg h1] at h; cases h
 ·rw [if_neg h0] at h
  by_cases h1:-(n:Int)≤i
  ·rw [if_pos h1] at h
   have e:(i+n).toNat=j:=Option.some.inj h
   exact ⟨by rw [seqIndex_neg (by omega) h1,e],by omega,h1,by omega⟩
  ·rw [if_neg h1] at h; cases h
theorem ud {α:Type} {xs:List α} {i:Int} {v:α} (h:atI xs i=some v):∃ j,seqIndex? i xs.length=some j∧xs[j]?=some v∧j < xs.length∧-(xs.length:Int)≤i∧i < xs.length:=by
 unfold atI at h
 cases e:ixN xs.length i with
 | none=>rw [e] at h; cases h
 | some j =>
  rw [e] at h
  obtain ⟨h1,h2,h3,h4⟩:=FJ e
  exact ⟨j,h1,h,h2,h3,h4⟩
theorem aJ {α:Type} {xs:List α} {j:Nat} {v:α} (h:xs[j]?=some v):atI xs (j:Int)=some v:=by
 have hj:j < xs.length:=(List.getElem?_eq_some_iff.mp h).1
 have e:ixN xs.length (j:Int)=some j:=by
  unfold ixN
  rw [if_pos (by omega),if_pos (by omega)]; simp
 unfold atI; rw [e]; exact h
def Hj (b:Expr):Prop:=∀ o i,subscripted b false o i=operate [o,i] (getItem o i)
def IxR (X:Cx) (r:R2):Prop :=
 ∀ (value slice:Expr) (pins:List (Addr × Obj)) (s:Shared) (σ:St) (H:Hp) (x y:V) (v u:Value) (Q:VK),Inv X pins σ H s→RelV x v→RelV y u→r x y H Q →
  subscripted slice false v u=operate [v,u] (getItem v u)→wpAny (model X.prog X.w) X.A (subscriptTail value slice v u) (EP X pins σ Q) X.xe s
def MtR (X:Cx) (id:String) (r:V→List V→Hp→VK→Prop):Prop :=
 ∀ (pins:List (Addr × Obj)) (s:Shared) (σ:St) (H:Hp) (x:V) (xs:List V) (v:Value) (us:List Value) (Q:VK),Inv X pins σ H s→RelV x v→Vals xs us→r x xs H Q →
  wpAny (model X.prog X.w) X.A (call (.builtin id) (v :: us)) (EP X pins σ Q) X.xe s
section
variable {X:Cx} {a b:Expr} {ta tb:TE} {pos:Pos}
theorem IxR.or {r r':R2} (h:IxR X r) (h':IxR X r'):IxR X (fun x y H Q=>r x y H Q∨r' x y H Q):=by
 intro value slice pins s σ H x y v u Q I rx ry q hs
 rcases q with q | q
 ·exact h value slice pins s σ H x y v u Q I rx ry q hs
 ·exact h' value slice pins s σ H x y v u Q I rx ry q hs
theorem MtR.or {id:String} {r r':V→List V→Hp→VK→Prop} (h:MtR X id r) (h':MtR X id r'):MtR X id (fun x xs H Q=>r x xs H Q∨r' x xs H Q):=by
 intro pins s σ H x xs v us Q I rx rs q
 rcases q with q | q
 ·exact h pins s σ H x xs v us Q I rx rs q
 ·exact h' pins s σ H x xs v us Q I rx rs q
theorem aM {r:R2} (hr:IxR X r) (ha:PE X a ta) (hb:PE X b tb) (hs:Hj b):PE X (.Subscript a b pos) (tOp r ta tb):=by
 intro pins s σ H Q I h
 exact Subscript_ (Lp ha hb I h fun v u s2 x y H2 I2 rx ry q=>hr a b pins s2 σ H2 x y v u Q I2 rx ry q (hs _ _))
def Lf (K:PySem.W.Frag):R2:=fun x y H Q=>∃ p xs i v,x=.ref p∧y=.int i∧SqL K H p xs∧atI xs i=some v∧Q v H
def Lz (K:PySem.W.Frag):R2:=fun x y H Q=>∃ p xs i v,x=.ref p∧y=.int i∧SqT K H p xs∧atI xs i=some v∧Q v H
def Oa:R2:=fun x y H Q=>∃ z i c,x=.str z∧y=.int i∧z.length≤sizeLine∧atI z.cps.toList i=some c∧Q (.str ⟨#[c]⟩) H
theorem cC:IxR X (Lf X.K):=by
 intro value slice pins s σ H x y v u Q I rx ry h hs
 obtain ⟨p,xs,i,z,rfl,rfl,hq,he,q⟩:=h
 cases rx
 obtain ⟨t,rfl⟩:=ry
 obtain ⟨its,r,pl,hz⟩:=I.list hq
 obtain ⟨j,h1,h2,h3,h4,h5⟩:=ud he
 obtain ⟨w,ew,rw'⟩:=r.get h2
 have hl:=r.length
 have hn:=oR
 have fin:EP X pins σ Q w s:=⟨z,H,I,rw',q⟩
 by_cases h0:0≤i
 ·have hj:i.toNat=j:=by
   rw [seqIndex_of h0 h5] at h1
   exact Option.some.inj h1
  exact item_listR pl.isList h0 (by omega) (by rw [hj]; simpa using ew) fin hs
 ·have hj:(i+(its.toArray.size:Int)).toNat=j:=by
   rw [seqIndex_neg (by omega) h4] at h1
   rw [List.size_toArray,← hl]
   exact Option.some.inj h1
  exact subscriptTail_builtinR (x:=w) pl.isList.typeIs slot_list_getitem.lookup
   (wpAny_getItem_list_neg (Q:=fun r s'=>r=w∧EP X pins σ Q r s') pl.isList (by omega) (by rw [List.size_toArray] <;> omega) (by omega) (by rw [hj]; simpa using ew) ⟨rfl,fin⟩) hs
theorem aO:IxR X (Lz X.K):=by
 intro value slice pins s σ H x y v u Q I rx ry h hs
 obtain ⟨p,xs,i,z,rfl,rfl,hq,he,q⟩:=h
 cases rx
 obtain ⟨t,rfl⟩:=ry
 obtain ⟨its,r,pl,hz⟩:=I.tuple hq
 obtain ⟨j,h1,h2,h3,h4,h5⟩:=ud he
 obtain ⟨w,ew,rw'⟩:=r.get h2
 have hl:=r.length
 have hn:=oR
 have fin:EP X pins σ Q w s:=⟨z,H,I,rw',q⟩
 exact subscriptTail_builtinR (x:=w) pl.typeIs slot_tuple_getitem.lookup
  (getItem_tuple (j:=j) (Q:=fun r s'=>r=w∧EP X pins σ Q r s') pl (by omega) (by omega) (by rw [List.size_toArray,← hl]; exact h1) (by simpa using ew) ⟨rfl,fin⟩) hs
theorem nA:IxR X Oa:=by
 intro value slice pins s σ H x y v u Q I rx ry h hs
 obtain ⟨z,i,c,rfl,rfl,hz,he,q⟩:=h
 obtain ⟨t,rfl⟩:=rx
 obtain ⟨t',rfl⟩:=ry
 obtain ⟨j,h1,h2,h3,h4,h5⟩:=ud he
 have hl:z.cps.toList.length=z.length:=by simp [Str.length]
 rw [hl] at h1 h4 h5
 have hn:=oR
 exact tail_any (typeIs_str s z t) slot_str_getitem.lookup (getItem_str (c:=c) (by
  have e1:decide (i < -(2 ^ 63:Int))=false:=decide_eq_false (by omega)
  have e2:decide (i ≥ 2 ^ 63)=false:=decide_eq_false (by omega)
  rw [e1,e2,Bool.or_false]) (by rw [h1]; simpa using h2) ⟨.str ⟨#[c]⟩,H,I.tok _,⟨_,rfl⟩,q⟩) hs
theorem Inv.lst {pins:List (Addr × Obj)} {σ:St} {H:Hp} {s:Shared} {p:Addr} {xs:List V} (I:Inv X pins σ H s) (h:H p=some (.lst xs)) :
  ∃ (its:List Value) (n:Nat),Vals xs its∧s.heap.get? p=some { cls:=.type "list",data:=.seq its.toArray n }∧xs.length≤sizeLine:=by
 obtain ⟨z,its,n,r,e⟩:=I.hok p _ h
 exact ⟨its,n,r,e,z⟩
theorem sJ (lo hi:Option Int) (n:Nat):(sliceBounds lo hi none n).1=((HT.sIx n 0 lo:Nat):Int)∧(sliceBounds lo hi none n).2.1=((HT.sIx n n hi:Nat):Int)∧(sliceBounds lo hi none n).2.2=1:=by
 refine ⟨?_,?_,rfl⟩
 ·cases lo with
  | none=>simp [sliceBounds,HT.sIx]
  | some i =>
   simp only [sliceBounds,HT.sIx,Option.getD_none,show (1:Int) > 0 by decide,if_true]
   by_cases h:i < 0
   ·simp only [h,if_true] <;> omega
   ·simp only [h,if_false] <;> omega
 ·cases hi with
  | none=>simp [sliceBounds,HT.sIx]
  | some i =>
   simp only [sliceBounds,HT.sIx,Option.getD_none,show (1:Int) > 0 by decide,if_true]
   by_cases h:i < 0
   ·simp only [h,if_true] <;> omega
   ·simp only [h,if_false] <;> omega
theorem pH (its:List Value) (lo hi:Option Int):slicePick its.toArray lo hi none=((its.drop (HT.sIx its.length 0 lo)).take (HT.sIx its.length its.length hi - HT.sIx its.length 0 lo)).toArray:=by
 obtain ⟨h1,h2,h3⟩:=sJ lo hi its.toArray.size
 unfold slicePick
 rw [h1,h2,h3]
 simp only [sliceRange_one,pick_run,List.size_toArray] <;> rfl
def Nb (K:PySem.W.Frag):V→Option Int→Option Int→Hp→VK→Prop:=fun x lo hi H Q=>∃ a xs,x=.ref a∧SqL K H a xs∧∀ p,H p=none→Q (.ref p) (upd H p (.lst (uP xs lo hi)))
theorem GR:SlR X (Nb X.K):=by
 intro pins s σ H x v vl vu lo hi sl Q I rx hs pl pu h
 obtain ⟨a,xs,rfl,hx,q⟩:=h
 cases rx
 obtain ⟨its,r,ht,hz⟩:=I.list hx
 have hlen:=r.length
 refine ⟨"list",_,slot_list_getitem.lookup,ht.isList.typeIs,?_⟩
 refine wpAny_getItem_list_slice ht.isList hs pl pu .none (by simp) ?_ (by rw [List.size_toArray] <;> omega)
 rw [pH,← hlen]
 refine ⟨.ref s.heap.objs.size,_,I.laid (t':=s.toks) (o:=.lst (uP xs lo hi)) (fun b ob q=>Heap.get?_push_of_some _ q) (Nat.le_refl _) ?_,rfl,q _ (I.hok.fresh (Nat.le_refl _))⟩
 exact ⟨Nat.le_trans (mO xs lo hi) hz,_,0,(r.drop (HT.sIx xs.length 0 lo)).take (HT.sIx xs.length xs.length hi - HT.sIx xs.length 0 lo),Heap.get?_push_size _ rfl⟩
def jr:V→Bool
 | .non=>true
 | .bl _=>true
 | .int _=>true
 | .str _=>true
 | _=>false
def eqV:V→V→Bool
 | .non,.non=>true
 | .bl a,.bl b=>a == b
 | .bl a,.int b=>(if a then 1 else 0) == b
 | .int a,.bl b=>a == (if b then 1 else 0)
 | .int a,.int b=>a == b
 | .str a,.str b=>a == b
 | _,_=>false
theorem Jv {A:Around} {s:Shared} {y x:V} {u v:Value} (ry:RelV y u) (rx:RelV x v) (fy:jr y=true) (fx:jr x=true):SeqAt.EqAt A s u v (eqV y x):=by
 cases y with
 | non =>
  cases ry
  cases x with
  | non=>cases rx; exact SeqAt.EqAt.same _
  | bl b=>cases rx; exact SeqAt.EqAt.none_bool b
  | int b=>obtain ⟨t,rfl⟩:=rx; exact SeqAt.EqAt.none_int b t
  | str b=>obtain ⟨t,rfl⟩:=rx; exact SeqAt.EqAt.none_str b t
  | _=>exact absurd (show false=true from fx) Bool.false_ne_true
 | bl a =>
  cases ry
  cases x with
  | non=>cases rx; exact SeqAt.EqAt.bool_none a
  | bl b=>cases rx; exact SeqAt.EqAt.bool_bool a b
  | int b=>obtain ⟨t,rfl⟩:=rx; exact SeqAt.EqAt.bool_int a b t
  | str b=>obtain ⟨t,rfl⟩:=rx; exact SeqAt.EqAt.bool_str a b t
  | _=>exact absurd (show false=true from fx) Bool.false_ne_true
 | int a =>
  obtain ⟨t',rfl⟩:=ry
  cases x with
  | non=>cases rx; exact SeqAt.EqAt.int_none a t'
  | bl b=>cases rx; exact SeqAt.EqAt.int_bool a t' b
  | int b=>obtain ⟨t,rfl⟩:=rx; exact SeqAt.EqAt.int_int a t' b t
  | str b=>obtain ⟨t,rfl⟩:=rx; exact SeqAt.EqAt.int_str a t' b t
  | _=>exact absurd (show false=true from fx) Bool.false_ne_true
 | str a =>
  obtain ⟨t',rfl⟩:=ry
  cases x with
  | non=>cases rx; exact SeqAt.EqAt.str_none a t'
  | bl b=>cases rx; exact SeqAt.EqAt.str_bool a t' b
  | int b=>obtain ⟨t,rfl⟩:=rx; exact SeqAt.EqAt.str_int a t' b t
  | str b=>obtain ⟨t,rfl⟩:=rx; exact SeqAt.EqAt.str_str a t' b t
  | _=>exact absurd (show false=true from fx) Bool.false_ne_true
 | _=>exact absurd (show false=true from fy) Bool.false_ne_true
def eqU (x:V) (u:Value):Bool:=match u with
 | .none=>eqV .non x
 | .bool b=>eqV (.bl b) x
 | .int i _=>eqV (.int i) x
 | .str z _=>eqV (.str z) x
 | _=>false
theorem vo {x y:V} {u:Value} (r:RelV y u) (f:jr y=true):eqU x u=eqV y x:=by
 cases y with
 | non=>cases r; rfl
 | bl b=>cases r; rfl
 | int i=>obtain ⟨t,rfl⟩:=r; rfl
 | str z=>obtain ⟨t,rfl⟩:=r; rfl
 | _=>exact absurd (show false=true from f) Bool.false_ne_true
theorem m7 {x:V}:∀ {xs:List V} {us:List Value},Vals xs us→xs.all jr=true→us.any (eqU x)=xs.any fun y=>eqV y x
 | _,_,.nil,_=>rfl
 | y :: xs,u :: us,.cons r t,f=>by
  rw [List.all_cons,Bool.and_eq_true] at f
  rw [List.any_cons,List.any_cons,vo r f.1,m7 t f.2]
theorem gA {A:Around} {s:Shared} {x:V} {v:Value} (rx:RelV x v) (fx:jr x=true):∀ {xs:List V} {us:List Value},Vals xs us→xs.all jr=true→∀ u∈us,SeqAt.EqAt A s u v (eqU x u)
 | _,_,.nil,_=>fun u hu=>by cases hu
 | y :: xs,u :: us,.cons r t,f=>fun u' hu=>by
  rw [List.all_cons,Bool.and_eq_true] at f
  rcases List.mem_cons.mp hu with rfl | hu
  ·rw [vo r f.1]; exact Jv r rx f.1 fx
  ·exact gA rx fx t f.2 u' hu
def inV (x:V) (xs:List V):Bool:=xs.any fun y=>eqV y x
def rIn (K:PySem.W.Frag) (neg:Bool):R2:=fun x y H Q=>∃ p xs,y=.ref p∧(SqL K H p xs∨SqT K H p xs)∧jr x=true∧xs.all jr=true∧Q (.bl (if neg then !inV x xs else inV x xs)) H
theorem iD:OpR X (compareOp .In) (rIn X.K false):=by
 intro pins s σ H x y v u Q I rx ry h
 obtain ⟨p,xs,rfl,hq,fx,fs,q⟩:=h
 cases ry
 rcases hq with hq | hq
 ·obtain ⟨its,r,pl,hz⟩:=I.list hq
  refine SeqAt.in_listAt (eqU x) pl.isList (fun w hw=>gA rx fx r fs w (by simpa using hw)) ⟨.bl _,H,I,rfl,?_⟩
  rw [show its.toArray.any (eqU x)=its.any (eqU x) by simp,m7 r fs]
  exact q
 ·obtain ⟨its,r,pl,hz⟩:=I.tuple hq
  refine SeqAt.in_tupleAt (eqU x) pl (fun w hw=>gA rx fx r fs w (by simpa using hw)) ⟨.bl _,H,I,rfl,?_⟩
  rw [show its.toArray.any (eqU x)=its.any (eqU x) by simp,m7 r fs]
  exact q
theorem ig:OpR X (compareOp .NotIn) (rIn X.K true):=by
 intro pins s σ H x y v u Q I rx ry h
 obtain ⟨p,xs,rfl,hq,fx,fs,q⟩:=h
 cases ry
 rcases hq with hq | hq
 ·obtain ⟨its,r,pl,hz⟩:=I.list hq
  refine SeqAt.notIn_listAt (eqU x) pl.isList (fun w hw=>gA rx fx r fs w (by simpa using hw)) ⟨.bl _,H,I,rfl,?_⟩
  rw [show its.toArray.any (eqU x)=its.any (eqU x) by simp,m7 r fs]
  exact q
 ·obtain ⟨its,r,pl,hz⟩:=I.tuple hq
  refine SeqAt.notIn_tupleAt (eqU x) pl (fun w hw=>gA rx fx r fs w (by simpa using hw)) ⟨.bl _,H,I,rfl,?_⟩
  rw [show its.toArray.any (eqU x)=its.any (eqU x) by simp,m7 r fs]
  exact q
theorem fj:jt X (.builtin "len") (fun xs H Q=>∃ p ys,xs=[.ref p]∧(SqL X.K H p ys∨SqT X.K H p ys)∧Q (.int ys.length) H):=by
 intro pins s σ H xs us Q I r h
 obtain ⟨p,ys,rfl,hq,q⟩:=h
 obtain ⟨u,rfl,rx⟩:=vals1 r
 cases rx
 have hn:=oR
 rcases hq with hq | hq
 ·obtain ⟨its,r',pl,hz⟩:=I.list hq
  have hlen:=r'.length
  exact Calls.call_len_list pl.isList (by simp only [List.size_toArray] <;> omega) ⟨.int ys.length,H,I.tok _,⟨s.toks+1,by rw [List.size_toArray,hlen]⟩,q⟩
 ·obtain ⟨its,r',pl,hz⟩:=I.tuple hq
  have hlen:=r'.length
  exact len_tuple pl (by simp only [List.size_toArray] <;> omega) ⟨.int ys.length,H,I.tok _,⟨s.toks+1,by rw [List.size_toArray,hlen]⟩,q⟩
theorem lg:jt X (.builtin "len") (fun xs H Q=>∃ z,xs=[.str z]∧z.length≤sizeLine∧Q (.int z.length) H):=by
 intro pins s σ H xs us Q I r h
 obtain ⟨z,rfl,hz,q⟩:=h
 obtain ⟨u,rfl,t,rfl⟩:=vals1 r
 have hn:=oR
 exact len_str (by omega) ⟨.int z.length,H,I.tok _,⟨_,rfl⟩,q⟩
theorem jt.or {f:Value} {r r':List V→Hp→VK→Prop} (h:jt X f r) (h':jt X f r'):jt X f (fun xs H Q=>r xs H Q∨r' xs H Q):=by
 intro pins s σ H xs us Q I rs q
 rcases q with q | q
 ·exact h pins s σ H xs us Q I rs q
 ·exact h' pins s σ H xs us Q I rs q
theorem bL:jt X (.type "tuple") (fun xs H Q=>∃ p ys,xs=[.ref p]∧((SqL X.K H p ys∧∀ l,H l=none→Q (.ref l) (upd H l (.tup ys)))∨(SqT X.K H p ys∧Q (.ref p) H))):=by
 intro pins s σ H xs us Q I r h
 obtain ⟨p,ys,rfl,h⟩:=h
 obtain ⟨u,rfl,rx⟩:=vals1 r
 cases rx
 rcases h with ⟨hq,q⟩ | ⟨hq,q⟩
 ·obtain ⟨its,r',pl,hz⟩:=I.list hq
  have hlen:=r'.length
  refine call_tuple_list pl.isList (fun h' kp=>?_) (by simp only [List.size_toArray] <;> omega)
  have I1:Inv X pins σ H { s with heap:=h' }:=I.kept (t':=s.toks) kp
  have I2:Inv X pins σ (upd H h'.objs.size (.tup ys)) { s with heap:=h'.push { cls:=.type "tuple",data:=.seq its.toArray } } :=
   I1.laid (t':=s.toks) (fun b o e=>Heap.get?_push_of_some _ e) (Nat.le_refl _) (show dZ X.prog X.w _ _ _ (.tup ys) from ⟨hz,its,r',IsTup.new _ _⟩)
  exact ⟨.ref h'.objs.size,_,I2,rfl,q _ (I1.hok.fresh (Nat.le_refl _))⟩
 ·obtain ⟨its,r',pl,hz⟩:=I.tuple hq
  exact call_tuple_same pl ⟨.ref p,H,I,rfl,q⟩
def tyV (K:PySem.W.Frag) (T:String) (x:V) (H:Hp):Prop:=match x with
 | .str _=>T = "str"
 | .int _=>T = "int"
 | .ref p=>(T = "list"∧∃ xs,SqL K H p xs)∨(T = "tuple"∧∃ o,K.lookup p=some o∧o.cls=.type "tuple"∧o.dict=none) ∨
   (T = "dict"∧((∃ kvs,H p=some (.dK kvs))∨∃ kvs,H p=some (.dT kvs)))∨(T = "set"∧∃ S n,H p=some (.set S n))
 | _=>False
theorem DW {pins:List (Addr × Obj)} {σ:St} {H:Hp} {s:Shared} {T:String} {x:V} {v:Value} (I:Inv X pins σ H s) (r:RelV x v) (ty:tyV X.K T x H) :
  s.TypeIs v T∧∀ a,v=.ref a→∃ ob,s.heap.get? a=some ob∧ob.dict=none:=by
 cases x with
 | str z =>
  obtain ⟨t,rfl⟩:=r
  cases (show T = "str" from ty)
  exact ⟨typeIs_str s z t,fun _ e=>nomatch e⟩
 | int i =>
  obtain ⟨t,rfl⟩:=r
  cases (show T = "int" from ty)
  exact ⟨typeIs_int s i t,fun _ e=>nomatch e⟩
 | ref p =>
  cases r
  rcases ty with ⟨rfl,xs,hq⟩ | ⟨rfl,o,hk,hc,hd⟩ | ⟨rfl,hk⟩ | ⟨rfl,S,n,hk⟩
  ·obtain ⟨its,_,pl,_⟩:=I.list hq
   refine ⟨pl.isList.typeIs,fun a e=>?_⟩
   cases e
   obtain ⟨o,n,e,c,hd,_⟩:=pl
   exact ⟨o,e,hd⟩
  ·refine ⟨⟨o,I.kIn p o hk,hc⟩,fun a e=>?_⟩
   cases e
   exact ⟨o,I.kIn _ o hk,hd⟩
  ·have z:∃ o,s.heap.get? p=some o∧o.ExactDict:=by
    rcases hk with ⟨kvs,hk⟩ | ⟨kvs,hk⟩
    ·obtain ⟨_,_,_,_,o,_,_,e,ex,_⟩:=I.hok p _ hk
     exact ⟨o,e,ex⟩
    ·obtain ⟨_,_,_,_,o,_,_,e,ex,_⟩:=I.hok p _ hk
     exact ⟨o,e,ex⟩
   obtain ⟨o,e,ex⟩:=z
   refine ⟨⟨o,e,ex.1⟩,fun a e2=>?_⟩
   cases e2
   exact ⟨o,e,ex.2.1⟩
  ·obtain ⟨o,_,_,_,e,ex,_⟩:=I.hok p _ hk
   refine ⟨⟨o,e,ex.1⟩,fun a e2=>?_⟩
   cases e2
   exact ⟨o,e,ex.2.1⟩
 | _=>exact False.elim ty
def NZ (K:PySem.W.Frag) (T:String) (r:V→List V→Hp→VK→Prop) (to:TE):TE:=fun σ H Q=>to σ H fun x H1=>tyV K T x H1∧r x [] H1 Q
def tBM (K:PySem.W.Frag) (T:String) (r:V→List V→Hp→VK→Prop) (to:TE) (t:TA):TE:=fun σ H Q=>to σ H fun x H1=>tyV K T x H1∧t σ H1 fun xs H2=>r x xs H2 Q
variable {o e:Expr} {es:List Expr} {to:TE} {t:TA} {name:Str} {apos cpos:Pos} {T id:String} {r:V→List V→Hp→VK→Prop}
theorem HN (pa:PlainAttrs T) (slot:Slot T name id) (hty:typeOf (.builtin id)=pure (.type "method_descriptor")) (hm:MtR X id r) (ho:PE X o to)
  (hbase:attributeBase o name X.env (eval o X.env)=eval o X.env:=by rfl) (hline:(apos.endLine == cpos.line)=true:=by rfl):PE X (.Call (.Attribute o name apos) [] [] cpos) (NZ X.K T r to):=by
 intro pins s σ H Q I h
 refine wpAny_Call_method0_late hbase hline (thn (ho pins s σ H _ I h) fun v s1 ⟨x,H1,I1,r1,ty,q1⟩=>?_)
 obtain ⟨h1,h2⟩:=DW I1 r1 ty
 exact ⟨T,id,pa,slot,hty,h1,h2,Calls.callWith_builtin rfl (PySem.evalArgs_none (hm pins s1 σ H1 x [] v [] Q I1 r1 .nil q1))⟩
theorem gD (pa:PlainAttrs T) (slot:Slot T name id) (hty:typeOf (.builtin id)=pure (.type "method_descriptor")) (hm:MtR X id r) (ho:PE X o to) (ha:PA X (e :: es) t)
  (hbase:attributeBase o name X.env (eval o X.env)=eval o X.env:=by rfl)
  (hfew:((backTo cpos (starEach (e :: es) X.env)).all (fun x=>!x.1) && (backToKw cpos (keywordEach [] X.env)).all (fun x=>x.1.isSome)
   && decide ((e :: es).length+([]:List Keyword).length+(if ([]:List Keyword).isEmpty then 0 else 1) < 30))=true:=by rfl)
  (hline:(apos.endLine == cpos.line)=true:=by rfl) (hs:starEach (e :: es) X.env=(false,eval e X.env) :: starEach es X.env:=by rfl) (hplain:(backTo cpos (starEach es X.env)).any (·.1)=false:=by rfl) :
  PE X (.Call (.Attribute o name apos) (e :: es) [] cpos) (tBM X.K T r to t):=by
 intro pins s σ H Q I h
 refine wpAny_Call_method_late hbase hfew hline rfl (thn (ho pins s σ H _ I h) fun v s1 ⟨x,H1,I1,r1,ty,q1⟩=>?_)
 obtain ⟨h1,h2⟩:=DW I1 r1 ty
 refine ⟨T,id,pa,slot,hty,h1,h2,?_⟩
 have hA:=ha cpos pins s1 σ H1 _ I1 q1
 rw [hs] at hA ⊢
 refine Calls.callWith_builtin (by show (false || (backTo cpos (starEach es X.env)).any (·.1))=false; rw [hplain] <;> rfl) (Calls.evalArgs_plain ?_)
 exact thn hA fun us s2 ⟨vs,H2,I2,r2,q2⟩=>hm pins s2 σ H2 x vs v us Q I2 r1 r2 q2
end
end L2
namespace L2
open PySem PySem.Spec PyProof.Rows
def MtM (X:Cx) (id:String) (r:V→List V→Hp→VK→Prop):Prop :=
 ∀ (pins:List (Addr × Obj)) (s:Shared) (σ:St) (H:Hp) (x:V) (xs:List V) (v:Value) (us:List Value) (Q:VK),Inv X pins σ H s→RelV x v→Vals xs us→r x xs H Q →
  wpAny (model X.prog X.w) X.A (call (.builtin id) (v :: us)) (EP X pins σ Q) X.xe s
theorem Vals.one:∀ {x:V} {us:List Value},Vals [x] us→∃ u,us=[u]∧RelV x u
 | _,_,.cons r .nil=>⟨_,rfl,r⟩
theorem Vals.zero:∀ {us:List Value},Vals [] us→us=[]
 | _,.nil=>rfl
theorem Vals.eraseIdx:∀ {xs:List V} {us:List Value} (i:Nat),Vals xs us→Vals (xs.eraseIdx i) (us.eraseIdx i)
 | _,_,_,.nil=>.nil
 | _,_,0,.cons _ t=>t
 | _,_,i+1,.cons r t=>.cons r (Vals.eraseIdx i t)
theorem Vals.rep {xs:List V} {us:List Value} (h:Vals xs us):∀ k:Nat,Vals (List.replicate k xs).flatten (List.replicate k us).flatten
 | 0=>.nil
 | k+1=>by
  rw [List.replicate_succ,List.replicate_succ,List.flatten_cons,List.flatten_cons]
  exact Vals.append h (Vals.rep h k)
theorem sG {α:Type}:∀ (l:List α) (i:Nat),(l.eraseIdx i).length≤l.length
 | [],_=>Nat.le_refl _
 | _ :: _,0=>Nat.le_succ _
 | _ :: r,i+1=>Nat.succ_le_succ (sG r i)
theorem foldl_rep (its:List Value):∀ (k:Nat) (acc:List Value),
  List.foldl (fun x1 x2=>x1++x2) acc.toArray (List.replicate k its.toArray)=(acc++(List.replicate k its).flatten).toArray
 | 0,acc=>by simp
 | k+1,acc=>by
  have e:acc.toArray++its.toArray=(acc++its).toArray:=by simp
  have e2:(acc++its)++(List.replicate k its).flatten=acc++(List.replicate (k+1) its).flatten:=by
   rw [List.replicate_succ,List.flatten_cons,List.append_assoc]
  rw [← e2,← foldl_rep its k (acc++its),← e,List.replicate_succ,List.foldl_cons]
section
variable {X:Cx} {pins:List (Addr × Obj)} {σ:St} {H:Hp} {s:Shared} {l b:Addr} {xs ys zs:List V}
theorem Inv.lset {its its':List Value} {n:Nat} {f:Array Value→Array Value} {t':Nat} (I:Inv X pins σ H s) (hH:H l=some (.lst xs))
  (e:s.heap.get? l=some { cls:=.type "list",data:=.seq its.toArray n }) (hf:f its.toArray=its'.toArray) (hv:Vals ys its') (hz:ys.length≤sizeLine) :
  Inv X pins σ (upd H l (.lst ys)) { s with heap:=s.heap.update l (Obj.mapSeq f),toks:=t' }:=by
 have q:=PySem.IsL.update e f
 rw [hf] at q
 refine I.write (x:=l) (e:=l) (by rw [hH]; exact trivial) (.inl rfl) (fun b' u hb hu=>(Heap.get?_update_other s.heap (Obj.mapSeq f) (Ne.symm hb)).trans hu) ⟨_,q⟩ ?_
 exact ⟨hz,its',_,hv,q⟩
theorem Inv.lnew {its:List Value} {t':Nat} (I:Inv X pins σ H s) (hv:Vals ys its) (hz:ys.length≤sizeLine) :
  Inv X pins σ (upd H s.heap.objs.size (.lst ys)) { s with heap:=s.heap.push { cls:=.type "list",data:=.seq its.toArray },toks:=t' } :=
 I.laid (fun _ _ q=>Heap.get?_push_of_some _ q) (Nat.le_refl _) ⟨hz,its,0,hv,Heap.get?_push_size _ rfl⟩
theorem Inv.fresh (I:Inv X pins σ H s):H s.heap.objs.size=none:=I.hok.fresh (Nat.le_refl _)
theorem Inv.lstM (I:Inv X pins σ H s) (hH:H l=some (.lst xs)):xs.length≤sizeLine∧∃ (its:List Value) (n:Nat),Vals xs its∧xs.length=its.length∧s.heap.get? l=some { cls:=.type "list",data:=.seq its.toArray n }:=by
 obtain ⟨z,its,n,r,e⟩:=I.hok l _ hH
 exact ⟨z,its,n,r,r.length,e⟩
theorem qJ {n:Nat} (h:n≤sizeLine):Builtin.List.listTooLong n=false:=by
 unfold Builtin.List.listTooLong
 exact decide_eq_false (by omega)
end
section
variable {X:Cx}
def Gw:V→List V→Hp→VK→Prop:=fun x vs H Q=>∃ l xs y,x=.ref l∧vs=[y]∧H l=some (.lst xs)∧xs.length < sizeLine∧Q .non (upd H l (.lst (xs++[y])))
theorem cG:MtM X "list.append" Gw:=by
 intro pins s σ H x vs v us Q I rx rv h
 obtain ⟨l,xs,y,rfl,rfl,hH,hz,q⟩:=h
 cases rx
 obtain ⟨u,rfl,ru⟩:=rv.one
 obtain ⟨z,its,n,r,hl,e⟩:=I.lstM hH
 refine call_meets F.slot_list_append ⟨_,e,rfl⟩ F.entry_list_append (F.args_list_append_2 _ _) (PySem.list_append l its.toArray n u (by rw [List.size_toArray]; omega)) ⟨e,?_⟩
 refine ⟨.non,_,I.lset (its':=its++[u]) hH e (by simp) (r.append (.cons ru .nil)) ?_,rfl,q⟩
 rw [List.length_append,List.length_singleton]
 omega
def Hq:V→List V→Hp→VK→Prop:=fun x vs H Q=>∃ l b xs zs,x=.ref l∧vs=[.ref b]∧H l=some (.lst xs)∧H b=some (.lst zs)∧xs.length+zs.length≤sizeLine∧Q .non (upd H l (.lst (xs++zs)))
theorem HW:MtM X "list.extend" Hq:=by
 intro pins s σ H x vs v us Q I rx rv h
 obtain ⟨l,b,xs,zs,rfl,rfl,hH,hB,hz,q⟩:=h
 cases rx
 obtain ⟨u,rfl,ru⟩:=rv.one
 cases ru
 obtain ⟨z,its,n,r,hl,e⟩:=I.lstM hH
 obtain ⟨z2,its2,n2,r2,hl2,e2⟩:=I.lstM hB
 have hsz:its.toArray.size+its2.toArray.size≤sizeLine:=by rw [List.size_toArray,List.size_toArray]; omega
 have hlong:¬ (!its.toArray.isEmpty && Builtin.List.listTooLong (its.toArray.size+its2.toArray.size))=true:=by
  rw [qJ hsz,Bool.and_false]
  exact Bool.false_ne_true
 refine call_meets F.slot_list_extend ⟨_,e,rfl⟩ F.entry_list_extend (F.args_list_extend_2 _ _)
  (AutoSeq1.list_extend_list_list_0 l its.toArray n b its2.toArray n2 hlong (by rw [List.size_toArray]; omega) (by omega)) ⟨e,e2,?_⟩
 refine ⟨.non,_,I.lset (its':=its++its2) hH e (by simp) (r.append r2) ?_,rfl,q⟩
 rw [List.length_append]
 omega
def Iz:V→List V→Hp→VK→Prop:=fun x vs H Q=>∃ l xs i k y,x=.ref l∧vs=[.int i]∧H l=some (.lst xs)∧-(2 ^ 63)≤i∧i < 2 ^ 63∧seqIndex? i xs.length=some k∧xs[k]?=some y∧Q y (upd H l (.lst (xs.eraseIdx k)))
theorem vD:MtM X "list.pop" Iz:=by
 intro pins s σ H x vs v us Q I rx rv h
 obtain ⟨l,xs,i,k,y,rfl,rfl,hH,h1,h2,hk,hy,q⟩:=h
 cases rx
 obtain ⟨u,rfl,ru⟩:=rv.one
 obtain ⟨t,rfl⟩:=ru
 obtain ⟨z,its,n,r,hl,e⟩:=I.lstM hH
 obtain ⟨w,hw,rw'⟩:=r.get hy
 refine call_meets F.slot_list_pop ⟨_,e,rfl⟩ F.entry_list_pop (F.args_list_pop_2 _ _)
  (MeetsSeq.list_pop_at l its.toArray n i t k w (fitsIndex_both h1 h2) (by rw [List.size_toArray,← hl]; exact hk) (by rw [← Array.getElem?_toList]; exact hw) (by rw [List.size_toArray]; omega)) ⟨e,?_⟩
 refine ⟨y,_,I.lset (its':=its.eraseIdx k) hH e ?_ (r.eraseIdx k) ?_,rw',q⟩
 ·show its.toArray.eraseIdxIfInBounds k=(its.eraseIdx k).toArray
  rw [List.eraseIdxIfInBounds_toArray]
 ·have:=sG xs k
  omega
def Nq:R2:=fun x y H Q=>∃ l b xs zs,x=.ref l∧y=.ref b∧H l=some (.lst xs)∧H b=some (.lst zs)∧xs.length+zs.length≤sizeLine∧∀ p,H p=none→Q (.ref p) (upd H p (.lst (xs++zs)))
theorem mL:OpR X (binaryOp .Add) Nq:=by
 intro pins s σ H x y v u Q I rx ry h
 obtain ⟨l,b,xs,zs,rfl,rfl,hH,hB,hz,q⟩:=h
 cases rx
 cases ry
 obtain ⟨z,its,n,r,hl,e⟩:=I.lstM hH
 obtain ⟨z2,its2,n2,r2,hl2,e2⟩:=I.lstM hB
 refine PySem.P.add_list e e2 ?_ (by rw [List.size_toArray,List.size_toArray]; omega)
 have ea:its.toArray++its2.toArray=(its++its2).toArray:=by simp
 rw [ea]
 exact ⟨.ref _,_,I.lnew (t':=s.toks) (r.append r2) (by rw [List.length_append]; omega),rfl,q _ I.fresh⟩
def M8:R2:=fun x y H Q=>∃ l k xs,x=.ref l∧y=.int k∧H l=some (.lst xs)∧-(2 ^ 63)≤k∧k < 2 ^ 63∧xs.length * k.toNat≤sizeLine ∧
 ∀ p,H p=none→Q (.ref p) (upd H p (.lst (List.replicate k.toNat xs).flatten))
theorem len_rep {α:Type} (xs:List α) (k:Nat):(List.replicate k xs).flatten.length=k * xs.length:=by
 induction k with
 | zero=>simp
 | succ k ih=>rw [List.replicate_succ,List.flatten_cons,List.length_append,ih,Nat.succ_mul,Nat.add_comm]
theorem Jc:OpR X (binaryOp .Mult) M8:=by
 intro pins s σ H x y v u Q I rx ry h
 obtain ⟨l,k,xs,rfl,rfl,hH,h1,h2,hz,q⟩:=h
 cases rx
 obtain ⟨t,rfl⟩:=ry
 obtain ⟨z,its,n,r,hl,e⟩:=I.lstM hH
 have hlen:its.toArray.size * k.toNat≤sizeLine:=by rw [List.size_toArray,← hl]; exact hz
 have hcap:¬ its.toArray.size * k.toNat > (2 ^ 63 - 1) / 8:=by
  have:(sizeLine:Nat)≤(2 ^ 63 - 1) / 8:=by decide
  omega
 have hfit:¬ (!Builtin.List.listFitsIndex k)=true:=by
  rw [fitsIndex_both h1 h2]
  exact Bool.false_ne_true
 have hlong:¬ Builtin.List.listTooLong (its.toArray.size * k.toNat)=true:=by
  rw [qJ hlen]
  exact Bool.false_ne_true
 have hnew:List.foldl (fun x1 x2=>x1++x2) #[] (List.replicate (if its.toArray.isEmpty=true then 0 else k.toNat) its.toArray)=(List.replicate k.toNat its).flatten.toArray:=by
  have f0:∀ m:Nat,List.foldl (fun x1 x2=>x1++x2) #[] (List.replicate m its.toArray)=(List.replicate m its).flatten.toArray:=fun m=>by
   have:=foldl_rep its m []
   rw [List.nil_append] at this
   exact this
  rw [f0]
  cases its with
  | nil=>simp
  | cons a r'=>rw [if_neg (by simp)]
 refine wpAny_binaryOp_repeat_ref (T:="list") (U:="int") (by decide) ⟨_,e,rfl⟩ (fun s'=>typeIs_int s' k t) noFill_list_mul F.fills_int_mul F.slot_int_rmul repeat_list F.slot_int_index.lookup
  (call_meets F.slot_int_rmul (typeIs_int s k t) F.entry_int_rmul (F.args_int_rmul_2 _ _) (int___rmul___int_list k t l its.toArray n)
   ⟨e,rfl,⟨_,e,rfl⟩,call_meets F.slot_list_mul ⟨_,e,rfl⟩ F.entry_list_mul (F.args_list_mul_2 _ _) (AutoListH.list___mul___list_int_3 l its.toArray n k t hfit hcap hlong) ⟨e,?_⟩⟩)
 rw [hnew]
 exact ⟨.ref _,_,I.lnew (t':=s.toks) (r.rep k.toNat) (by rw [len_rep,Nat.mul_comm]; exact hz),rfl,q _ I.fresh⟩
end
section
variable {prog:Program} {w:World} {A:Around} {E:Value→Shared→Prop} {s:Shared}
end
section
variable {X:Cx}
end
end L2
namespace Att
open PySem PySem.W PySem.Calls PyProof.Rows
theorem mG {P:Params} {h:Heap}:∀ (ns:List Int) (vs:List Value),WellAll P h vs (ns.map WData.int)→IntsAre vs ns:=by
 intro ns
 induction ns with
 | nil =>
  intro vs w
  rw [List.map_nil] at w
  cases w
  exact .nil
 | cons n ns ih =>
  intro vs w
  rw [List.map_cons] at w
  cases w with
  | cons a b =>
   cases a
   exact .cons _ _ (ih _ b)
theorem Ac {l:OpenLaw} {n:Nat} (hn:l.most=some n) {P:Params} {h:Heap} {args:List WData} {vals:List Value}
  (hpre:l.row.toRowW.claim.pre args=true) (hwl:WellAll P h vals args) :
  ∃ a vs ns,vals=[Value.ref a]∧args=[WData.list (ns.map WData.int)]∧h.get? a=some { cls:=.type "list",data:=.seq vs.toArray }∧IntsAre vs ns∧ns.length≤n:=by
 have hsh:WShape.hasAll [] args [.list .int]=true:=(pre_splitW hpre).1
 have hc:l.pre.holds [] { args:=args }=true:=(pre_splitW hpre).2
 obtain ⟨d,r,rfl,h1,h2⟩:=hasAllW_cons hsh
 obtain rfl:=hasAllW_nil h2
 obtain ⟨xs,rfl,h3⟩:=hasW_list h1
 obtain ⟨ns,rfl⟩:=items_int h3
 have hlen:ns.length≤n:=by
  unfold OpenLaw.pre at hc
  have h4:(WTm.not (.lt (.lit (.int (n:Int))) (.len (.arg 0)))).holds [] { args:=[.list (ns.map .int)] }=true:=by
   have h4:=(holds_andW hc).1
   rw [hn] at h4
   exact h4
  have h5:=condW_of h4 (w_not (w_lt w_lit (w_len_list (w_arg rfl))))
  rw [List.length_map] at h5
  refine Nat.le_of_not_lt fun q=>?_
  have q':(n:Int) < ((ns.length:Nat):Int):=by omega
  first
   | (rw [decide_eq_true q'] at h5; exact absurd h5 (by decide))
   | (simp at h5; omega)
 cases hwl with
 | cons w1 w2 =>
  cases w2
  cases w1 with
  | list ho hall=>exact ⟨_,_,ns,rfl,rfl,ho,mG ns _ hall,hlen⟩
theorem yt (l:OpenLaw) (args:List WData):l.row.toRowW.claim.post args (.bool true) args=true :=
 postW_of (r:=l.row.toRowW) (X:=(true == true))
  (show WShape.has [] (.bool true) .bool=true by first | rfl | decide | simp [WShape.has,WShape.arms,WShape.armsAll])
  (show (WTm.eq .res (.lit (.bool true))).value [] { args:=args,res:=some (.bool true),after:=args }=some (.bool (true == true)) from w_eq_bool (w_res rfl) w_lit) rfl
theorem uE {l:OpenLaw} {n:Nat} {q:Program} {loose:List Str} {XP:(Str→Option Value)→Heap→Prop} {YP:World→Heap→Prop} {d:DefRec}
  (hn:l.most=some n) (hdf:d.params.defaults=[])
  (call:∀ (w:World) (s₀ s₁:Shared) (mg mb:Str→Option Value) (fa:Addr) (o:Obj) (pm cd doc:Value) (a:Addr) (vs:List Value) (ns:List Int),
   Ground q loose [] XP w s₀ mg mb s₁.heap→YP w s₁.heap →
   s₁.heap.get? fa=some o→o.data=.func (docDef d.name d.params d.body d.scope pm cd doc)→s₁.heap.CodeRec cd d.name→mg d.name=some (.ref fa) →
   s₁.heap.get? a=some { cls:=.type "list",data:=.seq vs.toArray }→IntsAre vs ns→ns.length≤n→s₁.gens = #[] →
   codeAny (model l.prog w) callerA (.call (.ref fa) ⟨[.ref a],[]⟩) (fun r s'=>r=.ok (.ret (.bool true))∧OldK s₁.heap s'.heap∧s'.os=s₁.os∧AllBare s'.gens) s₁) :
  WalkO q loose XP YP l.row.toRowW d [] (fun f vs=>PySem.call f vs):=by
 intro w s₀ s₁ mg mb G Y fa o pm cd doc dV kV ho hd hcd hD hmg hg args vals as hpre hlay hrd hwl hlo
 obtain rfl:dV=.none:=Dflts.none hD hdf
 obtain rfl:kV=.none:=Dflts.noKw hD
 obtain ⟨a,vs,ns,rfl,rfl,hobj,hints,hlen⟩:=Ac hn hpre hwl
 refine enter_call (codeAny_mono (call w s₀ s₁ mg mb fa o pm cd doc a vs ns G Y ho (fd_plain hd) hcd hmg hobj hints hlen hg) fun r s' hq=>?_)
 obtain ⟨rfl,h2,h3,h4⟩:=hq
 exact ⟨.inl ⟨.bool true,.bool true,[],rfl,fun _=>rfl,.bool true,yt l _,fun _=>⟨List.Pairwise.nil,fun _ hm=>(nomatch hm)⟩⟩,h2,h3,h4⟩
section
variable {prog:Program} {w:World} {A:Around} {E:Value→Shared→Prop} {s:Shared} {K:Frag}
def ledger (h:Heap) (L d:Addr):List (Addr × Obj):=(List.range h.objs.size).filterMap fun a=>if a=L∨a=d then none else (h.get? a).map fun o=>(a,o)
end
end Att
namespace L2
open PySem PySem.Spec PyProof.Rows
theorem rN:∀ {vs:List Value} {ns:List Int},IntsAre vs ns→Vals (ns.map V.int) vs
 | _,_,.nil=>.nil
 | _,_,.cons n t h=>.cons ⟨t,rfl⟩ (rN h)
def Only (H:Hp):Prop:=∀ b,H b=none∨∃ o xs,H b=some (.frz o (.lst xs))
theorem Cj {P:Program} {w:World} {K:PySem.W.Frag} {mg mb:Str→Option Value} {CX:CXT} {k:Nat} {fa a:Addr} {fd:FuncData} {x:Str} {sp:Sp} {s₁:Shared} {vs:List Value} {ns:List Int}
  (KX:K.In s₁.heap) (hns:s₁.heap.Ns mainGlobals mg) (hb:s₁.heap.Ns builtinsNs mb) (hbb:∀ x:Str,x ≠ "__name__"→mb x=bootBuiltins x) (hlim:s₁.heap.NoLimit) (hg:s₁.gens = #[])
  (ha:s₁.heap.get? a=some { cls:=.type "list",data:=.seq vs.toArray }) (hi:IntsAre vs ns) (hl:ns.length≤sizeLine) (hr:jw k callerA)
  (F:∀ base:Heap,K.In base→base.Ns mainGlobals mg→m9 P w K mg base CX k fa fd [x] sp) (hbind:∀ (s:Shared) (u:Value),BindsTo s fd ⟨[u],[]⟩ [(x,u)])
  (hsp:∀ H:Hp,Only H→SqL K H a (ns.map V.int)→sp [.ref a] H (fun v _=>v=.bl true) fun _ _ _=>False)
  (hCX:∀ H e s',CX [] H s₁ (fun _ _ _=>False) e s'→False) :
  codeAny (model P w) callerA (.call (.ref fa) ⟨[.ref a],[]⟩) (fun r s'=>r=.ok (.ret (.bool true))∧OldK s₁.heap s'.heap∧s'.os=s₁.os∧AllBare s'.gens) s₁:=by
 have rv:=rN hi
 have lenV:=hi.length
 have core:∀ H:Hp,Only H→SqL K H a (ns.map V.int)→HOk P w H s₁.heap→(∀ b,H b≠none→b=a)→(H a≠none→K.lookup a=none) →
   codeAny (model P w) callerA (.call (.ref fa) ⟨[.ref a],[]⟩) (fun r s'=>r=.ok (.ret (.bool true))∧OldK s₁.heap s'.heap∧s'.os=s₁.os∧AllBare s'.gens) s₁:=by
  intro H hO hS hok hA hK
  have base_of:∀ {b:Addr} {o:Obj},s₁.heap.get? b=some o→H b=none→(Dt s₁.heap H).get? b=some o:=fun e n=>Dg e n
  have noA:∀ {b:Addr} {o:Obj} {es:Array DictEntry} {ep:Nat},s₁.heap.get? b=some o→o.data=.dict es ep→H b=none:=fun {b o es ep} e d=>by
   cases q:H b with
   | none=>rfl
   | some u =>
    have e':b=a:=hA b (by rw [q]; simp)
    subst e'
    rw [ha] at e; cases e
    have d':Data.seq vs.toArray _=Data.dict es ep:=d
    cases d'
  have nsK:∀ {b:Addr} {m:Str→Option Value},s₁.heap.Ns b m→(Dt s₁.heap H).Ns b m:=fun {b m} ⟨o,es,ep,e,d,r⟩=>⟨o,es,ep,base_of e (noA e d),d,r⟩
  have hKb:K.In (Dt s₁.heap H):=fun b o e=>base_of (KX b o e) (by
   cases q:H b with
   | none=>rfl
   | some u =>
    have e':b=a:=hA b (by rw [q]; simp)
    subst e'
    rw [hK (by rw [q]; simp)] at e; cases e)
  have hM:Mod K mg (Dt s₁.heap H):=⟨hKb,nsK hns,⟨mb,nsK hb,hbb⟩,let ⟨mc,h1,h2⟩:=hlim; ⟨mc,nsK h1,h2⟩⟩
  have e0:Je P w K mg (Dt s₁.heap H) callerA [] s₁ H:=⟨rfl,hM,fun b o e=>FP e,Nat.le_of_eq (yd _ _),trivial,fun b hb=>absurd (show b∈([]:List Addr) from hb) (by simp),hok,.of_eq hg⟩
  refine codeAny_mono ((F _ hKb (nsK hns)).run callerA [] s₁ H ⟨[.ref a],[]⟩ [.ref a] [.ref a] _ _ hr e0 (hbind s₁ (.ref a)) (.cons rfl .nil) (hsp H hO hS)) fun r s' h=>?_
  cases r with
  | error e=>exact (hCX H e s' h).elim
  | ok fl =>
   cases fl with
   | next=>exact False.elim h
   | brk=>exact False.elim h
   | cont=>exact False.elim h
   | ret u =>
    obtain ⟨v,H',os,bare,un,hok',r',q⟩:=h
    have q':v=.bl true:=q
    subst q'
    obtain rfl:u=Value.bool true:=r'
    refine ⟨rfl,OldK.of_keep fun b o e=>?_,os,bare⟩
    cases q:H b with
    | none=>exact un.keep b o e q (by intro z; exact absurd (show b∈([]:List Addr) from z) (by simp)) (by simp)
    | some u =>
     rcases hO b with z | ⟨ob,xs,z⟩
     ·rw [q] at z; cases z
     ·have z2:=un.frzs b ob _ z
      obtain ⟨e1,_⟩:=hok b _ z
      obtain ⟨e2,_⟩:=hok' b _ z2
      rw [e] at e1; cases e1
      exact e2
 cases hk:K.lookup a with
 | some o =>
  have e:=KX a o hk
  rw [ha] at e
  cases e
  refine core (fun _=>none) (fun _=>.inl rfl) (.inr ⟨_,vs.toArray,_,hk,rfl,rfl,rfl,by rw [List.size_toArray,lenV]; exact hl,by simpa using rv⟩) (fun b u z=>by have z':(none:Option HO)=some u:=z; cases z') (fun b z=>absurd rfl z) fun z=>absurd rfl z
 | none =>
  refine core (fun b=>if b=a then some (.frz { cls:=.type "list",data:=.seq vs.toArray } (.lst (ns.map V.int))) else none) (fun b=>?_) (.inl (.inr ⟨{ cls:=.type "list",data:=.seq vs.toArray },if_pos rfl⟩)) (fun b u z=>?_) (fun b z=>?_) fun _=>hk
  ·by_cases hb:b=a
   ·exact .inr ⟨_,_,if_pos hb⟩
   ·exact .inl (if_neg hb)
  ·by_cases hb:b=a
   ·have z':=(if_pos hb).symm.trans z
    cases z'
    subst hb
    exact ⟨ha,by rw [List.length_map]; exact hl,vs,_,rv,ha⟩
   ·have z':=(if_neg hb).symm.trans z
    cases z'
  ·by_cases hb:b=a
   ·exact hb
   ·exact absurd (if_neg hb) z
end L2
namespace L2
open PySem PySem.Spec PyProof.Rows
abbrev KOf {K:PySem.W.Frag} {h:Heap} (_:K.In h):PySem.W.Frag:=K
theorem GK {l:PySem.W.OpenLaw} {n k:Nat} {q:Program} {loose:List Str} {XP:(Str→Option Value)→Heap→Prop} {YP:World→Heap→Prop} {d:DefRec} {K:Params→PySem.W.Frag} {CX:World→CXT} {sp:World→Sp} {x:Str}
  (hn:l.most=some n) (hn2:n≤sizeLine) (hdf:d.params.defaults=[]) (hr:jw k callerA)
  (hY:∀ (w:World) (h:Heap),YP w h→(K w.params).In h)
  (F:∀ (w:World) (mg:Str→Option Value) (fa:Addr) (h:Heap),(K w.params).In h→h.Ns mainGlobals mg→mg d.name=some (.ref fa) →
   ∃ fd:FuncData,(∀ (s:Shared) (u:Value),BindsTo s fd ⟨[u],[]⟩ [(x,u)]) ∧
    ∀ base:Heap,(K w.params).In base→base.Ns mainGlobals mg→m9 l.prog w (K w.params) mg base (CX w) k fa fd [x] (sp w))
  (hsp:∀ (w:World) (H:Hp) (a:Addr) (ns:List Int),ns.length≤n→Only H→SqL (K w.params) H a (ns.map V.int)→sp w [.ref a] H (fun v _=>v=.bl true) fun _ _ _=>False)
  (hCX:∀ (w:World) (H:Hp) (s:Shared) (e:Value) (s':Shared),CX w [] H s (fun _ _ _=>False) e s'→False) :
  PySem.W.WalkO q loose XP YP l.row.toRowW d [] (fun f vs=>PySem.call f vs):=by
 refine Att.uE hn hdf fun w s₀ s₁ mg mb fa o pm cd doc a vs ns G Y ho hd hcd hmg hobj hints hlen hg=>?_
 have KX:=hY w _ Y
 obtain ⟨fd,hb,hF⟩:=F w mg fa _ KX G.T.g hmg
 exact Cj KX G.T.g G.T.b G.T.builtins G.T.nolimit hg hobj hints (Nat.le_trans hlen hn2) hr hF hb (fun H hO hS=>hsp w H a ns hlen hO hS) fun H e s'=>hCX w H s₁ e s'
end L2
namespace L2
open PySem PySem.Spec PyProof.Rows
def iB (s:Stmt):Arguments:=match s with
 | .FunctionDef _ a _ _ _ _ _ _ _ _=>a
 | _=>{ posonlyargs:=[],args:=[],vararg:=none,kwonlyargs:=[],kw_defaults:=[],kwarg:=none,defaults:=[] }
def eF (s:Stmt):List Stmt:=match s with
 | .FunctionDef _ _ b _ _ _ _ _ _ _=>b
 | _=>[]
def aC (s:Stmt):Scope:=match s with
 | .FunctionDef _ _ _ _ _ _ sc _ _ _=>sc
 | _=>{ kind:=.function,names:=[],isGenerator:=false,isCoroutine:=false }
abbrev CX0:CXT:=fun _ _ _ _ _ _=>False
abbrev E0:XK:=fun _ _ _=>False
theorem Hu {X:Cx}:Passes CX0 X E0:=fun _ _ _ _ _ _ _ h=>h.elim
structure Fun (K:PySem.W.Frag) (x qual:Str) (st:Stmt) (f:Addr) (fd:FuncData):Prop where
 ex:∃ (oc:Value) (od:Option Addr) (kV doc pm:Value) (an:Option Addr) (cdv ct:Value) (osl:Array (Option Value)),
  fd=PySem.W.fnOf x qual (iB st) (eF st) (aC st) .none kV doc pm an cdv ct∧K.lookup f=some ⟨oc,od,.func fd,osl⟩∧PySem.W.codeIn K cdv qual=true
 kp:PySem.W.keepIn K (.ref f)=true
section
variable {P:Program} {w:World} {K:PySem.W.Frag} {mg:Str→Option Value} {base:Heap}
theorem Fun.ok {x qual:Str} {st:Stmt} {f:Addr} {fd:FuncData} {N ps:List Str} {k:Nat} {sp:Sp} (F:Fun K x qual st f fd) (S:aK N ps (aC st)) (len:∀ vs H Q E,sp vs H Q E→vs.length=ps.length)
  (hbody:∀ (cdv:Value) (A:Around) (outer:List Env) (s:Shared) (H:Hp) (vs:List V) (Q:VK) (E:XK),jw k (A.deeper (envOfC qual (aC st) s.heap.objs.size f cdv))→sp vs H Q E →
   ∃ t,PSs (uK CX0 P w K mg base N qual (aC st) f cdv A outer s H E).nox (eF st) t∧t { nx:=fun _ H'=>Q .non H',rt:=Q } (start N vs) H):m9 P w K mg base CX0 (k+1) f fd ps sp:=by
 obtain ⟨oc,od,kV,doc,pm,an,cdv,ct,osl,rfl,lk,hcd⟩:=F.ex
 refine JG lk hcd S len fun A outer s H vs Q E hr hsp=>?_
 obtain ⟨t,h,q⟩:=hbody cdv A outer s H vs Q E hr hsp
 exact ⟨t,h.nox,q⟩
theorem Fun.binds {x qual:Str} {st:Stmt} {f:Addr} {fd:FuncData} {ps:List Str} (F:Fun K x qual st f fd)
  (h:∀ (kV doc pm:Value) (an:Option Addr) (cdv ct:Value) (us:List Value),us.length=ps.length→bindArgs (PySem.W.fnOf x qual (iB st) (eF st) (aC st) .none kV doc pm an cdv ct) ⟨us,[]⟩=pure (ps.zip us)):Binds K fd ps []:=by
 obtain ⟨oc,od,kV,doc,pm,an,cdv,ct,osl,rfl,lk,hcd⟩:=F.ex
 exact .all (h kV doc pm an cdv ct)
theorem En {x qual:Str} {st:Stmt} {f:Addr} {oc:Value} {od an:Option Addr} {osl:Array (Option Value)} {kV doc pm cdv ct:Value} (l:K.lookup f=some ⟨oc,od,.func (PySem.W.fnOf x qual (iB st) (eF st) (aC st) .none kV doc pm an cdv ct),osl⟩)
  (c:PySem.W.codeIn K cdv qual=true) (k:PySem.W.keepIn K (.ref f)=true):Fun K x qual st f (PySem.W.fnOf x qual (iB st) (eF st) (aC st) .none kV doc pm an cdv ct):=⟨⟨oc,od,kV,doc,pm,an,cdv,ct,osl,rfl,l,c⟩,k⟩
end
theorem dI {A:Around} {k:Nat} (hr:jw k A):A.units+1 < cLine:=Nat.lt_of_le_of_lt (Nat.add_le_add_left (by decide:1≤64) _) hr.units
theorem aN {n:Nat} (h:n≤1000):n < sizeLine:=Nat.lt_of_le_of_lt h (by decide)
section
variable {X:Cx}
theorem pv (i:Nat) {x:Str} {pos:Pos} (hN:X.N[i]?=some x:=by rfl) (hv:Vis X.env.scope x:=by first | exact Or.inl rfl | exact Or.inr (Or.inl rfl) | exact Or.inr (Or.inr rfl)) (hd:(x == ("__debug__" : Str))=false:=by decide)
  (hcd:(x == ("__classdict__" : Str))=false:=by decide):PE X (.Name x pos) (xr i):=Ie hN hv hd hcd
end
theorem LC {A B:Prop} (h:B):if false=true then A else B:=by
 rw [if_neg Bool.false_ne_true]
 exact h
theorem rR {A B:Prop} (h:A):if true=true then A else B:=by
 rw [if_pos rfl]
 exact h
theorem fV {c A B:Prop} [Decidable c] (h1:c→A) (h2:¬ c→B):if c then A else B:=by
 by_cases h:c
 ·rw [if_pos h]
  exact h1 h
 ·rw [if_neg h]
  exact h2 h
def Same (H H':Hp):Prop:=∀ b o,H b=some o→H' b=some o
theorem Same.refl (H:Hp):Same H H:=fun _ _ h=>h
theorem Same.trans {H H1 H2:Hp} (a:Same H H1) (b:Same H1 H2):Same H H2:=fun c o h=>b c o (a c o h)
theorem Same.free {H H':Hp} (e:Same H H') {l:Addr} (h:H' l=Option.none):H l=Option.none:=by
 cases q:H l with
 | none=>rfl
 | some o =>
  rw [e l o q] at h
  cases h
theorem Same.seq {K:PySem.W.Frag} {H H':Hp} {a:Addr} {xs:List V} (e:Same H H') (h:SqL K H a xs):SqL K H' a xs:=by
 rcases h with (h | ⟨o,h⟩) | h
 ·exact .inl (.inl (e _ _ h))
 ·exact .inl (.inr ⟨o,e _ _ h⟩)
 ·exact .inr h
end L2
set_option maxHeartbeats 4000000
namespace L2
open PySem PySem.Spec PyProof.Rows
theorem gR {env:Env}:∀ (names:List (Str × NameKind)) (acc:List (Str × Addr)),(∀ y∈names,y.2=.free→∃ c,env.cells.lookup y.1=some c) →
  ∃ cl,(forIn names acc (fun (x:Str × NameKind) (cs:List (Str × Addr))=>(if x.2 == .free then (do let c ← cellOf env x.1; pure (ForInStep.yield ((x.1,c) :: cs))) else pure (ForInStep.yield cs):Sem (ForInStep (List (Str × Addr))))))=pure cl ∧
   (∀ y∈names,y.2=.free→∃ c,cl.lookup y.1=some c)∧(∀ y c,acc.lookup y=some c→∃ d,cl.lookup y=some d)∧(∀ y c,cl.lookup y=some c→env.cells.lookup y=some c∨acc.lookup y=some c)
 | [],acc,_=>⟨acc,rfl,(fun _ h=>nomatch h),(fun y c h=>⟨c,h⟩),(fun y c h=>.inr h)⟩
 | (n,k) :: r,acc,h=>by
  rw [List.forIn_cons]
  by_cases hk:k=.free
  ·subst hk
   obtain ⟨c,hc⟩:=h (n,.free) List.mem_cons_self rfl
   obtain ⟨cl,e,h1,h2,h3⟩:=gR r ((n,c) :: acc) fun y hy=>h y (List.mem_cons_of_mem _ hy)
   refine ⟨cl,?_,?_,?_,?_⟩
   ·have e0:cellOf env n=pure c:=by unfold cellOf; rw [hc]
    simp only [beq_self_eq_true,if_true,e0,pure_bind]
    exact e
   ·intro y hy hf
    rcases List.mem_cons.mp hy with rfl | hy
    ·exact h2 n c (by simp)
    ·exact h1 y hy hf
   ·intro y d hd
    by_cases e1:y=n
    ·subst e1; exact h2 y c (by simp)
    ·exact h2 y d (by rw [List.lookup_cons,beq_eq_false_iff_ne.mpr e1]; exact hd)
   ·intro y d hd
    rcases h3 y d hd with q | q
    ·exact .inl q
    ·by_cases e1:y=n
     ·subst e1
      simp at q
      exact .inl (by rw [← q]; exact hc)
     ·rw [List.lookup_cons,beq_eq_false_iff_ne.mpr e1] at q
      exact .inr q
  ·have hb:(k == NameKind.free)=false:=by simpa using hk
   obtain ⟨cl,e,h1,h2,h3⟩:=gR r acc fun y hy=>h y (List.mem_cons_of_mem _ hy)
   refine ⟨cl,?_,?_,h2,h3⟩
   ·simp only [hb,Bool.false_eq_true,if_false,pure_bind]
    exact e
   ·intro y hy hf
    rcases List.mem_cons.mp hy with rfl | hy
    ·exact absurd hf hk
    ·exact h1 y hy hf
theorem jY {scope:Scope} {env:Env} (h:∀ y∈scope.names,y.2=.free→∃ c,env.cells.lookup y.1=some c) :
  ∃ cl,closureFor scope env=pure cl∧(∀ y∈scope.names,y.2=.free→∃ c,cl.lookup y.1=some c)∧∀ y c,cl.lookup y=some c→env.cells.lookup y=some c:=by
 obtain ⟨cl,e,h1,_,h3⟩:=gR scope.names [] h
 refine ⟨cl,?_,h1,fun y c q=>(h3 y c q).elim id fun z=>by simp at z⟩
 rw [← e]
 unfold closureFor
 simp only [bind_pure]
theorem kY {env:Env}:∀ {names:List (Str × NameKind)} {x:Str},names.lookup x=some .free →
  (names.map fun (n,k)=>if (k == NameKind.free && env.scope.kind == .function && env.kindOf n == some .cell) then (n,NameKind.cell) else (n,k)).lookup x=some .cell ∨
  (names.map fun (n,k)=>if (k == NameKind.free && env.scope.kind == .function && env.kindOf n == some .cell) then (n,NameKind.cell) else (n,k)).lookup x=some .free
 | [],_,h=>by simp at h
 | (n,k) :: r,x,h=>by
  have ih:=@kY env r x
  rw [List.map_cons]
  cases hx:x == n with
  | true =>
   simp only [List.lookup_cons,hx] at h
   cases h
   by_cases hc:(NameKind.free == NameKind.free && env.scope.kind == .function && env.kindOf n == some .cell)=true
   ·left; simp only [if_pos hc,List.lookup_cons,hx]
   ·right; simp only [if_neg hc,List.lookup_cons,hx]
  | false =>
   simp only [List.lookup_cons,hx] at h
   by_cases hc:(k == NameKind.free && env.scope.kind == .function && env.kindOf n == some .cell)=true
   ·simp only [if_pos hc,List.lookup_cons,hx]; exact ih h
   ·simp only [if_neg hc,List.lookup_cons,hx]; exact ih h
theorem jm {env:Env}:∀ {names:List (Str × NameKind)} {x:Str} {k':NameKind},
  (names.map fun (n,k)=>if (k == NameKind.free && env.scope.kind == .function && env.kindOf n == some .cell) then (n,NameKind.cell) else (n,k)).lookup x=some k'→(k'=.cell∨k'=.free) →
  ∃ k,(x,k)∈names∧(k=.cell∨k=.free)
 | [],_,_,h,_=>by simp at h
 | (n,k) :: r,x,k',h,hk=>by
  have ih:=@jm env r x k'
  rw [List.map_cons] at h
  cases hx:x == n with
  | true =>
   have e:x=n:=by simpa using hx
   subst e
   by_cases hc:(k == NameKind.free && env.scope.kind == .function && env.kindOf x == some .cell)=true
   ·refine ⟨k,List.mem_cons_self,.inr ?_⟩
    simp only [Bool.and_eq_true,beq_iff_eq] at hc
    exact hc.1.1
   ·simp only [if_neg hc,List.lookup_cons,beq_self_eq_true] at h
    cases h
    exact ⟨k,List.mem_cons_self,hk⟩
  | false =>
   have h':(r.map fun (n,k)=>if (k == NameKind.free && env.scope.kind == .function && env.kindOf n == some .cell) then (n,NameKind.cell) else (n,k)).lookup x=some k':=by
    by_cases hc:(k == NameKind.free && env.scope.kind == .function && env.kindOf n == some .cell)=true
    ·simpa only [if_pos hc,List.lookup_cons,hx] using h
    ·simpa only [if_neg hc,List.lookup_cons,hx] using h
   obtain ⟨q,m,z⟩:=ih h' hk
   exact ⟨q,List.mem_cons_of_mem _ m,z⟩
abbrev bJ (X:Cx) (scope:Scope) (N:List Str) (cl:List (Str × Addr)) (C:Addr) (s:Shared) (H:Hp) (ex:List Addr) (pn:List (Addr × Obj)) (E:Value→Shared→Prop):Cx :=
 { X with N:=N,s₀:=s,H₀:=H,env:=compEnvC scope cl C X.env,outer:=X.stack,stack:=X.stack,ex:=ex,fn:=fun _=>false,pn:=pn,xe:=E }
theorem pC {X:Cx} {pins:List (Addr × Obj)} {σ σ':St} {H:Hp} {s:Shared} {scope:Scope} {N:List Str} {cl:List (Str × Addr)} {fp:List Addr} {E:Value→Shared→Prop} {h1:Heap} {t:Nat}
  (I:Inv X pins σ H s) (hkind:scope.kind=.function) (hcell:∀ y∈scope.names,y.2≠.cell) (hfree:∀ y∈scope.names,y.2=.free→X.env.kindOf y.1=some .cell∨X.env.kindOf y.1=some .free)
  (hcl1:∀ y∈scope.names,y.2=.free→∃ c,cl.lookup y.1=some c) (hcl2:∀ y c,cl.lookup y=some c→X.env.cells.lookup y=some c)
  (hf:∀ b∈fp,wC X pins H b) (hfo:∀ b∈fp,∃ o,s.heap.get? b=some o)
  (hl:σ'.length=N.length) (hσ:∀ (i:Nat) (x:Str) (v:V),N[i]?=some x→σ'[i]?=some (some v)→scope.names.lookup x=some .free∧∃ j:Nat,X.N[j]?=some x∧σ[j]?=some (some v))
  (hns:h1.Ns s.heap.objs.size (fun _=>none)) (hold:∀ b o,s.heap.get? b=some o→h1.get? b=some o) :
  Inv (bJ X scope N cl s.heap.objs.size s H fp (X.pn++pins) E) [] σ' H { s with heap:=h1,toks:=t }:=by
 have szc:∀ b o,s.heap.get? b=some o→b≠s.heap.objs.size:=fun b o e=>Nat.ne_of_lt (Heap.lt_size e)
 have okY:(bJ X scope N cl s.heap.objs.size s H fp (X.pn++pins) E).Ok:=by
  refine ⟨I.ok.mod,hkind,I.ok.glob,I.ok.blt,Nat.le_refl _,fun x y c e1 e2=>I.ok.inj x y c (hcl2 _ _ e1) (hcl2 _ _ e2),fun x hx=>?_,fun x c hfn _=>?_,I.ok.hd,I.ok.frames,.inl rfl,fun b hb=>⟨?_,fun x c e z=>?_⟩,I.bs,Nat.le_trans I.ok.bsz I.sz,fun b o e hb=>?_,fun b hb z=>?_,I.stack,I.stkFree⟩
  ·have hx':(relabel scope X.env).names.lookup x=some .cell∨(relabel scope X.env).names.lookup x=some .free:=hx
   have q:∃ k,(x,k)∈scope.names∧(k=.cell∨k=.free):=by
    rcases hx' with z | z
    ·exact jm z (.inl rfl)
    ·exact jm z (.inr rfl)
   obtain ⟨k,hm,hk⟩:=q
   rcases hk with rfl | rfl
   ·exact absurd rfl (hcell _ hm)
   ·exact hcl1 _ hm rfl
  ·exact absurd (show false=true from hfn) (by decide)
  ·obtain ⟨o,e⟩:=hfo b hb
   exact szc b o e
  ·exact (hf b hb).2.2.2.2.1 x c (hcl2 _ _ e) z
  ·rcases (hf b hb).2.2.2.1 with z | z
   ·exact I.ok.noex b o e z
   ·exact absurd (Nat.lt_of_lt_of_le (Heap.lt_size e) (Nat.le_trans I.ok.bsz z)) (Nat.lt_irrefl _)
  ·rcases List.mem_cons.mp (I.stkSub b z) with q | q
   ·exact (hf b hb).2.1 q
   ·exact (hf b hb).2.2.1 q
 obtain ⟨m,hn,hlook⟩:=id I.loc
 refine ⟨okY,rfl,I.bare,Un.kept hold,⟨_,hns,fun i x v e1 e2 _=>?_⟩,fun x c e=>?_,I.hok.fresh (Nat.le_refl _),fun x c e=>I.freeC x c (hcl2 _ _ e),fun p hp=>?_,I.hok.kept hold,hl⟩
 ·obtain ⟨hfr,j,ej,es⟩:=hσ i x v e1 e2
  have hm:(x,NameKind.free)∈scope.names:=PySem.mem_of_lookup hfr
  have hk:=hfree _ hm rfl
  have hv:Vis X.env.scope x:=by
   rcases hk with z | z
   ·exact .inr (.inl z)
   ·exact .inr (.inr z)
  obtain ⟨u,r,l⟩:=hlook j x v ej es hv
  refine ⟨u,r,.inr ⟨?_,?_⟩⟩
  ·exact kY hfr
  ·rcases l with ⟨k,_⟩ | ⟨_,c,ec,hc⟩
   ·rcases hk with z | z <;> (rw [k] at z; cases z)
   ·obtain ⟨d,hd⟩:=hcl1 _ hm rfl
    have e:=hcl2 _ _ hd
    have ec':X.env.cells.lookup x=some d:=e
    rw [ec] at ec'; cases ec'
    obtain ⟨o,ho,hod⟩:=hc
    exact ⟨c,hd,o,hold c o ho,hod⟩
 ·obtain ⟨v,o,ho,hod⟩:=I.cell x c (hcl2 _ _ e)
  exact ⟨v,o,hold c o ho,hod⟩
 ·have hp':p∈X.pn++pins:=by simpa using hp
  obtain ⟨a1,a2,a3,a4,a5⟩:=I.pin p hp'
  refine ⟨hold _ _ a1,a2,szc _ _ a1,fun z=>?_,a5⟩
  rcases List.mem_cons.mp (I.stkSub _ z) with q | q
  ·exact a3 q
  ·exact a4 q
def Ei (X:Cx) (ifs:List Expr) (t:TT):Prop :=
 ∀ (pins:List (Addr × Obj)) (s:Shared) (σ:St) (H:Hp) (Q:Bool→Hp→Prop),Inv X pins σ H s→t σ H Q →
  wpAny (model X.prog X.w) X.A (forIn ifs true fun c r=>if r=true then do let ok ← isTrue c X.env (eval c X.env); pure (ForInStep.yield ok) else pure (ForInStep.yield r)) (TP X pins σ Q) X.xe s
def Mf:TT:=fun _ H Q=>Q true H
theorem cJ {X:Cx}:Ei X [] Mf:=fun _ _ _ H _ I h=>wpAny_tests_nil ⟨H,I,h⟩
theorem lO {X:Cx} {c:Expr} {t:TT} (h:PT X c t):Ei X [c] t:=fun pins s σ H Q I hw=>wpAny_tests_one (h pins s σ H Q I hw)
section
variable {prog:Program} {w:World} {A:Around} {R:Result→Shared→Prop} {s:Shared}
theorem cU {elt target iter:Expr} {ifs:List Expr} {scope:Scope} {pos:Pos} {it acc:Value} {env:Env} (I:Nat→Shared→Prop)
  (turn:∀ n s,I n s→wpAny (model prog w) A (pyNext it) (fun r s₁=>match r with
   | none=>R (.ok .next) s₁
   | some v=>wpAny (model prog w) A (letOwnedTupleGo target it v) (fun _ s₁'=>wpAny (model prog w) A (assign target env v) (fun _ s₂ =>
     wpAny (model prog w) A (forIn ifs true fun c r=>if r=true then do let ok ← isTrue c env (eval c env); pure (ForInStep.yield ok) else pure (ForInStep.yield r)) (fun ok s₃ =>
      if ok=true then wpAny (model prog w) A (eval elt env) (fun x s₄ =>
       wpAny (model prog w) A (call (.builtin "list.append") [acc,x]) (fun _ s₅=>∃ m,m < n∧I m s₅) (notedBy (model prog w) A env fun e s'=>R (.error e) s') s₄) (notedBy (model prog w) A env fun e s'=>R (.error e) s') s₃
      else ∃ m,m < n∧I m s₃) (notedBy (model prog w) A env fun e s'=>R (.error e) s') s₂) (notedBy (model prog w) A env fun e s'=>R (.error e) s') s₁') (notedBy (model prog w) A env fun e s'=>R (.error e) s') s₁)
    (notedBy (model prog w) A env fun e s'=>R (.error e) s') s)
  (n:Nat) (h:I n s) :
  codeAny (model prog w) A (.compLoop (.ListComp elt [⟨target,iter,ifs,0⟩] scope pos) 0 it acc env) R s:=by
 refine codeAny_loop rfl I (fun n s hI=>?_) n h
 show wpAny _ A ((compTurn (.ListComp elt [⟨target,iter,ifs,0⟩] scope pos) 0 it acc env).onRaise (fun x=>do noteFrame x env; theTreesLotGoes x)) _ _ s
 refine wpAny_noted ?_
 rw [compTurn_list]
 refine wpAny_bind (wpAny_standAt (wpAny_bind (wpAny_mono (turn n s hI) (fun r s₁ h₁=>?_) fun _ _ h'=>h')))
 cases r with
 | none=>exact wpAny_pure h₁
 | some v =>
  refine wpAny_bind (wpAny_mono h₁ (fun _ s₁' h₁'=>?_) fun _ _ h'=>h')
  refine wpAny_bind (wpAny_mono h₁' (fun _ s₂ h₂=>wpAny_bind (wpAny_mono h₂ (fun ok s₃ h₃=>?_) fun _ _ h'=>h')) fun _ _ h'=>h')
  cases ok with
  | false=>exact wpAny_pure ⟨rfl,h₃⟩
  | true =>
   exact wpAny_bind (wpAny_bind (wpAny_mono h₃ (fun x s₄ h₄=>wpAny_bind (wpAny_mono h₄ (fun _ s₅ h₅=>wpAny_pure (wpAny_pure ⟨rfl,h₅⟩)) fun _ _ h'=>h')) fun _ _ h'=>h'))
end
def wg (wi:TI) (g:TG) (tc:TT) (te:TE) (lift:St→St):TE:=fun σ H Q=>wi σ H fun J H1=>∀ l,H1 l=none→∃ W:Nat→Nat→St→Hp→Prop,(∃ m,W 0 m (lift σ) (upd H1 l (.lst [])))∧∀ i m σ H,W i m σ H →
 (J.stop i H∧Q (.ref l) H)∨(J.go i H∧∃ N:St→Hp→Prop,(∀ σ' H',N σ' H'→∃ m',m' < m∧W (i+1) m' σ' H') ∧
  ∀ x H',J.yld i H x H'→g x σ H' fun σ2 H2=>tc σ2 H2 fun b H3=>if b=true then te σ2 H3 fun v H4=>∃ ys,H4 l=some (.lst ys)∧ys.length < sizeLine∧N σ2 (upd H4 l (.lst (ys++[v]))) else N σ2 H3)
theorem Ge {X:Cx} {elt tg iter:Expr} {ifs:List Expr} {scope:Scope} {pos:Pos} {wi:TI} {g:TG} {tc:TT} {te:TE} (N:List Str) (lift:St→St) (hc:X.calm=true) (hi:PI X tg iter wi)
  (hkind:scope.kind=.function) (hcell:∀ y∈scope.names,y.2≠.cell) (hfree:∀ y∈scope.names,y.2=.free→X.env.kindOf y.1=some .cell∨X.env.kindOf y.1=some .free)
  (hnames:∀ y∈scope.names,y.2=.local→scope.names.lookup y.1=some .local)
  (hlen:∀ σ:St,σ.length=X.N.length→(lift σ).length=N.length)
  (hσ:∀ (σ:St) (i:Nat) (x:Str) (v:V),σ.length=X.N.length→N[i]?=some x→(lift σ)[i]?=some (some v)→scope.names.lookup x=some .free∧∃ j:Nat,X.N[j]?=some x∧σ[j]?=some (some v))
  (hg:∀ cl C s H ex pn E,PG (bJ X scope N cl C s H ex pn E) tg g) (ht:∀ cl C s H ex pn E,Ei (bJ X scope N cl C s H ex pn E) ifs tc) (he:∀ cl C s H ex pn E,PE (bJ X scope N cl C s H ex pn E) elt te)
  (hs:∀ x,foldedSetIterable iter X.env x=pure x:=by intro _; rfl) :
  PE X (.ListComp elt [⟨tg,iter,ifs,0⟩] scope pos) (wg wi g tc te lift):=by
 intro pins s σ H Q I h
 rw [eval_ListComp]
 obtain ⟨cl,hclos,hcl1,hcl2⟩:=jY (scope:=scope) (env:=X.env) fun y hy hf=>I.ok.has y.1 (hfree y hy hf)
 refine wpAny_comprehension_free (use:=none) rfl hs hclos hkind hnames (thn (hi pins s σ H _ I h) fun v s1 h1=>thn h1 fun itv s2 h2=>?_)
 obtain ⟨it,fp,tn,J,H2,e,I2,T,st2,f2,q⟩:=h2
 subst e
 refine wpAny_newObj_type (wpAny_newFunctionEnv hcell (by intro y hy; simp at hy) (fun h₁ hns₁ hsb₁=>?_) hkind)
 have I3:Inv X pins σ (upd H2 s2.heap.objs.size (.lst [])) { s2 with heap:=s2.heap.push { cls:=.type "list",data:=.seq ([]:List Value).toArray } }:=I2.lnew (its:=[]) (t':=s2.toks) .nil (Nat.zero_le _)
 have fr:H2 s2.heap.objs.size=none:=I2.fresh
 have hold:∀ b o,(s2.heap.push { cls:=.type "list",data:=.seq ([]:List Value).toArray }).get? b=some o→h₁.get? b=some o:=fun b o e=>hsb₁.extBut b o (Nat.ne_of_lt (Heap.lt_size e)) (Heap.get?_push_of_some _ e)
 have f3:∀ b∈fp,wC X pins (upd H2 s2.heap.objs.size (.lst [])) b:=fun b hb=>by
  obtain ⟨o,eo,_⟩:=T.obj 0 _ st2 b hb
  exact ⟨by rw [aG (Nat.ne_of_lt (Heap.lt_size eo))]; exact (f2 b hb).1,(f2 b hb).2⟩
 have fo:∀ b∈fp,∃ o,(s2.heap.push { cls:=.type "list",data:=.seq ([]:List Value).toArray }).get? b=some o:=fun b hb=>by
  obtain ⟨o,eo,_⟩:=T.obj 0 _ st2 b hb
  exact ⟨o,Heap.get?_push_of_some _ eo⟩
 generalize hP:s2.heap.push { cls:=.type "list",data:=.seq ([]:List Value).toArray }=P at *
 obtain ⟨W,⟨m0,w0⟩,turn⟩:=q s2.heap.objs.size fr
 generalize hL:s2.heap.objs.size=L at *
 let R:Result→Shared→Prop:=compPost (model X.prog X.w) X.A X.xe none (EP X pins σ Q) (.ref L) P.objs.size
 let Y:Cx:=bJ X scope N cl P.objs.size { s2 with heap:=P } (upd H2 L (.lst [])) fp (X.pn++pins) (notedBy (model X.prog X.w) X.A (compEnvC scope cl P.objs.size X.env) fun e s'=>R (.error e) s')
 have IY:Inv Y [] (lift σ) (upd H2 L (.lst [])) { s2 with heap:=h₁,toks:=s2.toks+([]:List (Str × Value)).length } :=
  pC (s:={ s2 with heap:=P }) I3 hkind hcell hfree hcl1 hcl2 f3 fo (hlen σ I.len) (fun i x v=>hσ σ i x v I.len) hns₁ hold
 have stY:tn 0 h₁:=T.keep _ _ _ st2 fun b hb o e=>hold b o (by rw [← hP]; exact Heap.get?_push_of_some _ e)
 have fC:∀ b∈fp,b≠P.objs.size∧(b∈fp):=fun b hb=>by
  obtain ⟨o,eo⟩:=fo b hb
  exact ⟨Nat.ne_of_lt (Heap.lt_size eo),hb⟩
 have fpY:∀ {H':Hp},(∀ b∈fp,H' b=none)→∀ b∈fp,wC Y [] H' b:=fun {H'} hn b hb=>by
  refine ⟨hn b hb,(fC b hb).1,fun z=>?_,.inl hb,fun x c ex=>(f3 b hb).2.2.2.2.1 x c (hcl2 _ _ ex),fun p hp=>?_⟩
  ·rcases List.mem_cons.mp (I3.stkSub b z) with y | y
   ·exact (f3 b hb).2.1 y
   ·exact (f3 b hb).2.2.1 y
  ·have hp':p∈(X.pn++pins)++[]:=hp
   rw [List.append_nil] at hp'
   exact (f3 b hb).2.2.2.2.2 p hp'
 have loop:∀ s4:Shared,s4={ s2 with heap:=h₁,toks:=s2.toks+([]:List (Str × Value)).length } →
   codeAny (model X.prog X.w) X.A (.compLoop (.ListComp elt [⟨tg,iter,ifs,0⟩] scope pos) 0 (.ref it) (.ref L) (compEnvC scope cl P.objs.size X.env)) R s4:=by
  rintro s4 rfl
  refine cU (fun n s'=>∃ i σ' H',Inv Y [] σ' H' s'∧tn i s'.heap∧(∀ b∈fp,H' b=none)∧W i n σ' H') ?_ m0 ⟨0,_,_,IY,stY,fun b hb=>(f3 b hb).1,w0⟩
  rintro n s5 ⟨i,σ5,H5,I5,st5,fr5,w5⟩
  rcases turn i n σ5 H5 w5 with ⟨stop,qn⟩ | ⟨go,Nx,hNx,step⟩
  ·refine thn (T.done Y rfl rfl rfl hc i [] s5 σ5 H5 Y.xe I5 (fpY fr5) st5 stop) fun r s6 ⟨hr,I6⟩=>?_
   subst hr
   show R (.ok .next) s6
   obtain ⟨m6,hn6,_⟩:=id I6.loc
   have IX:Inv X pins σ H5 s6:=I3.call' (s':=s6) (ch:=fp) I6.os I6.base I6.hok I6.bare fun b hb=>⟨(f3 b hb).2.2.2.1,(f3 b hb).2.1,(f3 b hb).2.2.2.2.1,(f3 b hb).2.2.2.2.2⟩
   refine ⟨m6,hn6,fun h' sb=>⟨.ref L,H5,IX.turned (t':=s6.toks) (it:=P.objs.size) (fun b o hb e=>(sb.2 b hb).trans e) I6.free (Nat.ne_of_gt I3.lt) (.inr I3.sz) (fun x c ec z=>?_) fun p hp z=>?_,rfl,qn⟩⟩
   ·obtain ⟨v0,qv⟩:=I3.cell x c ec
    exact absurd qv.lt (by rw [z]; exact Nat.lt_irrefl _)
   ·have z0:=Heap.lt_size (I3.pin p hp).1
    exact absurd z0 (by rw [z]; exact Nat.lt_irrefl _)
  ·refine thn (T.item Y rfl rfl rfl hc i [] s5 σ5 H5 Y.xe I5 (fpY fr5) st5 go) fun r s6 ⟨u,hr,h6⟩=>?_
   subst hr
   refine thn h6 fun _ s7 ⟨x,H7,I7,r7,y7,st7,fr7⟩=>?_
   have I7':=I7.pinned (fpY fr7) (T.obj _ _ st7)
   refine thn (hg _ _ _ _ _ _ _ _ s7 σ5 H7 x u _ I7' r7 (step x H7 y7)) fun _ s8 ⟨σ8,H8,I8,q8⟩=>?_
   refine thn (ht _ _ _ _ _ _ _ _ s8 σ8 H8 _ I8 q8) fun ok s9 ⟨H9,I9,q9⟩=>?_
   have again:∀ {sx:Shared} {Hx:Hp},Inv Y ([]++mF fp s7.heap) σ8 Hx sx→Nx σ8 Hx→∃ m,m < n∧∃ i σ' H',Inv Y [] σ' H' sx∧tn i sx.heap∧(∀ b∈fp,H' b=none)∧W i m σ' H':=fun {sx Hx} Ix nx=>by
    obtain ⟨m',hm,wx⟩:=hNx σ8 Hx nx
    refine ⟨m',hm,i+1,σ8,Hx,Ix.unpinned,T.keep _ _ _ st7 fun b hb o e=>(Ix.pin (b,o) (List.mem_append_right _ (List.mem_append_right _ (cW hb e)))).1,fun b hb=>?_,wx⟩
    obtain ⟨o,e,d⟩:=T.obj _ _ st7 b hb
    exact (Ix.pin (b,o) (List.mem_append_right _ (List.mem_append_right _ (cW hb e)))).2.1
   cases ok with
   | false =>
    rw [if_neg Bool.false_ne_true] at q9 ⊢
    exact again I9 q9
   | true =>
    rw [if_pos rfl] at q9 ⊢
    refine thn (he _ _ _ _ _ _ _ _ s9 σ8 H9 _ I9 q9) fun y s10 ⟨v10,H10,I10,r10,ys,hys,hz,q10⟩=>?_
    refine thn (cG (X:=Y) _ s10 σ8 H10 (.ref L) [v10] (.ref L) [y] (fun _ H'=>Nx σ8 H') I10 rfl (.cons r10 .nil) ⟨L,ys,v10,rfl,rfl,hys,hz,q10⟩) fun _ s11 ⟨_,H11,I11,_,q11⟩=>?_
    exact again I11 q11
 exact codeAny_compStart_list (loop _ rfl) (T.self X.A 0 _ _ _ stY (loop _ rfl))
end L2
namespace L2
open PySem PySem.Spec PyProof.Rows
theorem gK {J:It} {g:TG} {tc:TT} {te:TE} {R:Hp→Prop} {l:Addr} {σ0:St} {H0:Hp} (n:Nat) (Pv:Nat→St→Hp→Prop) (h0:Pv 0 σ0 H0) (hstop:∀ σ H,Pv n σ H→J.stop n H∧R H)
  (hgo:∀ i σ H,i < n→Pv i σ H→J.go i H∧∀ x H',J.yld i H x H'→g x σ H' fun σ2 H2=>tc σ2 H2 fun b H3=>if b=true then te σ2 H3 fun v H4=>∃ ys,H4 l=some (.lst ys)∧ys.length < sizeLine∧Pv (i+1) σ2 (upd H4 l (.lst (ys++[v]))) else Pv (i+1) σ2 H3) :
  ∃ W:Nat→Nat→St→Hp→Prop,(∃ m,W 0 m σ0 H0)∧∀ i m σ H,W i m σ H →
   (J.stop i H∧R H)∨(J.go i H∧∃ N:St→Hp→Prop,(∀ σ' H',N σ' H'→∃ m',m' < m∧W (i+1) m' σ' H') ∧
    ∀ x H',J.yld i H x H'→g x σ H' fun σ2 H2=>tc σ2 H2 fun b H3=>if b=true then te σ2 H3 fun v H4=>∃ ys,H4 l=some (.lst ys)∧ys.length < sizeLine∧N σ2 (upd H4 l (.lst (ys++[v]))) else N σ2 H3):=by
 refine ⟨fun i m σ H=>m=n - i∧i≤n∧Pv i σ H,⟨n,by simp,Nat.zero_le _,h0⟩,?_⟩
 rintro i m σ H ⟨rfl,hi,p⟩
 by_cases hlt:i < n
 ·obtain ⟨go,st⟩:=hgo i σ H hlt p
  exact .inr ⟨go,Pv (i+1),fun σ' H' p'=>⟨n - (i+1),by omega,rfl,hlt,p'⟩,st⟩
 ·have e:i=n:=by omega
  subst e
  exact .inl (hstop σ H p)
theorem vf {σ:St} {H:Hp} {F:Bool→Hp→Prop} (h:F true H):Mf σ H F:=h
theorem gN {i:Nat} {v:V} {σ:St} {H:Hp} {Q:St→Hp→Prop} (h:Q (σ.set i (some v)) H):qU i v σ H Q:=h
def Its (x:Str):It:=⟨fun i _=>i < x.cps.size,fun i H v H'=>H'=H∧∃ c,x.cps[i]?=some c∧v=.str ⟨#[c]⟩,fun i _=>x.cps.size≤i⟩
theorem Cr {P:Program} {w:World} {K:PySem.W.Frag} {tg:Expr} {it:Addr} {x:Str} {t:Tok} {ty:String} (hty:ty = "str_ascii_iterator"∨ty = "str_iterator") :
  Turn P w K tg (Its x) [it] it (fun i h=>i≤x.cps.size∧h.IsStrIter it ty x t i) where
 mem:=by simp
 obj:=fun i h st b hb=>by
  have e:b=it:=by simpa using hb
  subst e
  obtain ⟨_,o,e,c,d⟩:=st
  exact ⟨o,e,fun v z=>by rw [d] at z; cases z⟩
 keep:=fun i h h' st k=>by
  obtain ⟨hi,o,e,r⟩:=st
  exact ⟨hi,o,k it (by simp) o e,r⟩
 item:=by
  intro X hP hw hK hc i pins s σ H E I hf st hg
  subst hP hw hK
  obtain ⟨f0,f1,f2,f3,f4,f5⟩:=hf it (by simp)
  have hlt:i < x.cps.size:=hg
  obtain ⟨_,st⟩:=st
  have W:Walks X.prog X.w X.A it [it] [it] x.cps.size (SignAt x) (fun i h=>h.IsStrIter it ty x t i):=by
   rcases hty with rfl | rfl
   ·exact Walks.strAscii (I.ok.hd hc) it x t
   ·exact Walks.strWide (I.ok.hd hc) it x t
  refine W.item i s _ _ hlt st fun v h' tk hv st' kk=>?_
  obtain ⟨c,u,hc',rfl⟩:=hv
  have I1:Inv X pins σ H { s with heap:=h',toks:=tk }:=I.turned (fun b o hb e=>kk b o (by simpa using hb) e) f0 f1 f3 f4 f5
  obtain ⟨o,e,c2,d⟩:=id st'
  refine ⟨_,rfl,Cq (s:={ s with heap:=h',toks:=tk }) (n:=ty) e c2 d ?_ ⟨.str ⟨#[c]⟩,H,I1,⟨u,rfl⟩,⟨rfl,c,hc',rfl⟩,⟨by omega,st'⟩,fun b hb=>(hf b hb).1⟩⟩
  rcases hty with rfl | rfl <;> decide
 done:=by
  intro X hP hw hK hc i pins s σ H E I hf st hg
  subst hP hw hK
  obtain ⟨f0,f1,f2,f3,f4,f5⟩:=hf it (by simp)
  have hge:x.cps.size≤i:=hg
  obtain ⟨hi,st⟩:=st
  have e:i=x.cps.size:=by omega
  subst e
  have W:Walks X.prog X.w X.A it [it] [it] x.cps.size (SignAt x) (fun i h=>h.IsStrIter it ty x t i):=by
   rcases hty with rfl | rfl
   ·exact Walks.strAscii (I.ok.hd hc) it x t
   ·exact Walks.strWide (I.ok.hd hc) it x t
  exact W.done s _ _ st fun h' tk kk=>⟨rfl,I.turned (fun b o hb e=>kk b o (by simpa using hb) e) f0 f1 f3 f4 f5⟩
 self:=fun A i s Q E st h=>by
  obtain ⟨_,st⟩:=st
  rcases hty with rfl | rfl
  ·exact wpAny_pyIter_striter_ascii st h
  ·exact wpAny_pyIter_striter_wide st h
def Oc (tl:TE):TI:=fun σ H R=>tl σ H fun v H1=>∃ x,v=.str x∧R (Its x) H1
theorem Im {X:Cx} {tg l:Expr} {tl:TE} (hl:PE X l tl):PI X tg l (Oc tl):=by
 intro pins s σ H R I h
 refine thn (hl pins s σ H _ I h) fun v s1 ⟨y,H1,I1,r1,q1⟩=>?_
 obtain ⟨x,e,q⟩:=q1
 subst e
 obtain ⟨t,rfl⟩:=r1
 refine wpAny_pyIter_strU ?_
 have hty:strIterType x = "str_ascii_iterator"∨strIterType x = "str_iterator":=by
  unfold strIterType
  split
  ·exact .inl rfl
  ·exact .inr rfl
 refine ⟨s1.heap.objs.size,[s1.heap.objs.size],_,_,H1,rfl,I1.kept (t':=s1.toks) fun b o e=>Heap.get?_push_of_some _ e,Cr (t:=t) hty,⟨Nat.zero_le _,_,Heap.get?_push_size _ rfl,rfl,rfl⟩,fun b hb=>?_,q⟩
 have e:b=s1.heap.objs.size:=by simpa using hb
 subst e
 exact I1.fpOk (Nat.le_refl _) (I1.hok.fresh (Nat.le_refl _))
theorem wk {ys:List Str}:∀ {us:List Value},Vals (ys.map V.str) us→StrsAre us ys:=by
 induction ys with
 | nil=>intro us r; rw [List.map_nil] at r; cases r; exact .nil
 | cons y ys ih =>
  intro us r
  rw [List.map_cons] at r
  cases r with
  | cons r1 r2 =>
   obtain ⟨t,e⟩:=r1
   subst e
   exact .cons y t (ih r2)
theorem Fi {X:Cx}:MtR X "str.join" (fun x xs H Q=>∃ y l ys,x=.str y∧xs=[.ref l]∧SqL X.K H l (ys.map V.str)∧(ys.map (·.length)).sum+ys.length * y.length≤16777216∧Q (.str (Str.join y ys)) H):=by
 intro pins s σ H x xs v us Q I rx r h
 obtain ⟨y,l,ys,rfl,rfl,hq,hz,q⟩:=h
 obtain ⟨t,rfl⟩:=rx
 obtain ⟨u,rfl,ru⟩:=vals1 r
 cases ru
 obtain ⟨its,rv,p,_⟩:=I.list hq
 refine join_list p.isList (ys:=ys) (by simpa using wk rv) hz fun t' k=>?_
 have e:Txt.join y ys=Str.join y ys:=StrLaws.glued_eq_join y ys
 rw [e]
 exact ⟨.str _,H,I.tok _,⟨_,rfl⟩,q⟩
def Lb (i j:Int):Prop:=0 < j∧j < 2 ^ 64
theorem jL {X:Cx}:OpR X (binaryOp .FloorDiv) (rI Lb fun i j=>.int (i / j)):=opI fun i j _ _ _ _ _ hc q=>by
 have h1:(0:Int) < j:=hc.1
 have h2:j < 2 ^ 64:=hc.2
 refine floordiv_int (by omega) (by rw [Int.fdiv_eq_ediv_of_nonneg i (by omega)]; exact q) (.inl (PyProof.noPylong_of_log2 ?_))
 have h3:j.natAbs≠0:=by omega
 have h4:j.natAbs < 2 ^ 64:=by omega
 have h5:j.natAbs.log2 < 64:=(Nat.log2_lt h3).mpr h4
 omega
end L2
namespace L2
open PySem PySem.Spec PyProof.Rows
def ji (js:List (Option Nat)) (σ:St):St:=js.map fun j=>match j with | some j=>σ.getD j none | none=>none
def jo (N:List Str) (js:List (Option Nat)) (XN:List Str) (names:List (Str × NameKind)):Bool :=
 decide (N.length=js.length) && (N.zip js).all fun p=>match p.2 with | none=>true | some j=>decide (XN[j]?=some p.1) && decide (names.lookup p.1=some .free)
theorem uw {N:List Str} {js:List (Option Nat)} {XN:List Str} {names:List (Str × NameKind)} (h:jo N js XN names=true) (σ:St):(ji js σ).length=N.length:=by
 unfold jo at h
 rw [Bool.and_eq_true] at h
 unfold ji
 rw [List.length_map]
 exact (of_decide_eq_true h.1).symm
theorem Ar {N:List Str} {js:List (Option Nat)} {XN:List Str} {names:List (Str × NameKind)} (h:jo N js XN names=true) (σ:St) (i:Nat) (x:Str) (v:V) (h1:N[i]?=some x) (h2:(ji js σ)[i]?=some (some v)) :
  names.lookup x=some .free∧∃ j:Nat,XN[j]?=some x∧σ[j]?=some (some v):=by
 unfold jo at h
 rw [Bool.and_eq_true,List.all_eq_true] at h
 unfold ji at h2
 rw [List.getElem?_map] at h2
 cases e:js[i]? with
 | none=>rw [e] at h2; cases h2
 | some j =>
  rw [e] at h2
  cases j with
  | none=>cases h2
  | some j =>
   have h3:σ.getD j none=some v:=Option.some.inj h2
   have hm:(x,some j)∈N.zip js:=by
    refine List.mem_of_getElem? (i:=i) ?_
    rw [List.getElem?_zip_eq_some]
    exact ⟨h1,e⟩
   have q:=h.2 _ hm
   simp only [Bool.and_eq_true,decide_eq_true_eq] at q
   refine ⟨q.2,j,q.1,?_⟩
   rw [List.getD_eq_getElem?_getD] at h3
   cases e2:σ[j]? with
   | none=>rw [e2] at h3; cases h3
   | some o=>rw [e2] at h3; exact congrArg some h3
theorem cN {X:Cx} {elt tg iter:Expr} {ifs:List Expr} {scope:Scope} {pos:Pos} {wi:TI} {g:TG} {tc:TT} {te:TE} (XN:List Str) (sc:Scope) (N:List Str) (js:List (Option Nat)) (hXN:X.N=XN) (hsc:X.env.scope=sc) (hc:X.calm=true) (hi:PI X tg iter wi)
  (hkind:scope.kind=.function) (hchk:jo N js XN scope.names=true) (hcell:∀ y∈scope.names,y.2≠.cell) (hfree:∀ y∈scope.names,y.2=.free→sc.names.lookup y.1=some .cell∨sc.names.lookup y.1=some .free)
  (hnames:∀ y∈scope.names,y.2=.local→scope.names.lookup y.1=some .local)
  (hg:∀ cl C s H ex pn E,PG (bJ X scope N cl C s H ex pn E) tg g) (ht:∀ cl C s H ex pn E,Ei (bJ X scope N cl C s H ex pn E) ifs tc) (he:∀ cl C s H ex pn E,PE (bJ X scope N cl C s H ex pn E) elt te)
  (hs:∀ x,foldedSetIterable iter X.env x=pure x:=by intro _; rfl) :
  PE X (.ListComp elt [⟨tg,iter,ifs,0⟩] scope pos) (wg wi g tc te (ji js)):=by
 subst hXN
 subst hsc
 exact Ge N (ji js) hc hi hkind hcell hfree hnames (fun σ _=>uw hchk σ) (fun σ i x v _ h1 h2=>Ar hchk σ i x v h1 h2) hg ht he hs
theorem Ea {α:Type} {xs:List α} {r:Int} (h0:0≤r) (h1:r < xs.length):∃ v,atI xs r=some v∧v∈xs:=by
 have hk:r.toNat < xs.length:=by omega
 have ek:r=((r.toNat:Nat):Int):=by omega
 refine ⟨xs[r.toNat],?_,List.getElem_mem hk⟩
 have q:atI xs ((r.toNat:Nat):Int)=some xs[r.toNat]:=aJ (List.getElem?_eq_getElem hk)
 rw [← ek] at q
 exact q
theorem aq {H:Hp} {p:Addr} (h:H p=none) (o:HO):Same H (upd H p o):=fun b u q=>by rw [aG (aD q h)]; exact q
theorem wM {ns:List Int} {i:Nat} {y:V} (h:(ns.map V.int)[i]?=some y):∃ z,y=V.int z:=by
 rw [List.getElem?_map] at h
 cases e:ns[i]? with
 | none=>rw [e] at h; cases h
 | some z=>rw [e] at h; exact ⟨z,(Option.some.inj h).symm⟩
theorem small {n:Nat} (h:n≤1000):n≤sizeLine:=Nat.le_of_lt (aN h)
theorem smn (n:Nat) (h:n≤1000:=by decide):n≤sizeLine:=small h
theorem bR:(1000000:Nat)≤sizeLine:=by rw [sizeLine_eq]; decide
structure Pot (H0:Hp) (p:Addr) (H:Hp):Prop where
 at_:∃ a b:Int,H p=some (.lst [.int a,.int b])
 old:∀ c o,H0 c=some o→c≠p→H c=some o
theorem Pot.turn {H0 H:Hp} {p:Addr} {a b:Int} (P:Pot H0 p H):Pot H0 p (upd H p (.lst [.int a,.int b])) :=
 ⟨⟨a,b,ak⟩,fun c u q hc=>by rw [aG hc]; exact P.old c u q hc⟩
end L2
namespace L2
open PySem PySem.Spec PyProof.Rows
theorem yg {y:Str} (hy:y=⟨#[]⟩) (cs:List Nat) (h:cs.length≤1000000):((cs.map fun c=>(⟨#[c]⟩:Str)).map (·.length)).sum+(cs.map fun c=>(⟨#[c]⟩:Str)).length * y.length≤16777216:=by
 subst hy
 have e:((cs.map fun c=>(⟨#[c]⟩:Str)).map (·.length)).sum=cs.length:=by
  clear h
  induction cs with
  | nil=>rfl
  | cons c r ih =>
   rw [List.map_cons,List.map_cons,List.sum_cons,ih,List.length_cons]
   show 1+r.length=r.length+1
   omega
 rw [e]
 show cs.length+_ * 0≤_
 omega
end L2
namespace L2
open PySem PySem.Spec PyProof.Rows
theorem Es {bs:List Bool} {its:List Value} (r:Vals (bs.map V.bl) its) {i:Nat} {v:Value} (h:its.toArray[i]?=some v):v=.bool (bs.getD i true):=by
 have h':its[i]?=some v:=by simpa using h
 have hl:=r.length
 have hi:i < its.length:=(List.getElem?_eq_some_iff.mp h').1
 have hb:i < bs.length:=by rw [List.length_map] at hl; omega
 obtain ⟨u,hu,ru⟩:=r.get (i:=i) (x:=V.bl bs[i]) (by rw [List.getElem?_map,List.getElem?_eq_getElem hb]; rfl)
 rw [h'] at hu
 cases hu
 have e:bs.getD i true=bs[i]:=by rw [List.getD_eq_getElem?_getD,List.getElem?_eq_getElem hb]; rfl
 rw [e]
 exact ru
theorem all_range (bs:List Bool):(List.range bs.length).all (fun i=>bs.getD i true)=bs.all id:=by
 rw [Bool.eq_iff_iff,List.all_eq_true,List.all_eq_true]
 constructor
 ·intro h b hb
  obtain ⟨i,hi,e⟩:=List.getElem_of_mem hb
  have q:=h i (List.mem_range.mpr hi)
  rw [List.getD_eq_getElem?_getD,List.getElem?_eq_getElem hi] at q
  rw [← e]
  exact q
 ·intro h i hi
  have hi':=List.mem_range.mp hi
  rw [List.getD_eq_getElem?_getD,List.getElem?_eq_getElem hi']
  exact h _ (List.getElem_mem hi')
theorem yP {X:Cx} (hc:X.calm=true):jt X (.builtin "all") (fun xs H Q=>∃ (l:Addr) (bs:List Bool),xs=[.ref l]∧SqL X.K H l (bs.map V.bl)∧Q (.bl (bs.all id)) H):=by
 intro pins s σ H xs us Q I r h
 obtain ⟨l,bs,rfl,hq,q⟩:=h
 obtain ⟨u,rfl,ru⟩:=vals1 r
 cases ru
 obtain ⟨its,rv,p,hz⟩:=I.list hq
 have hd:X.A.in1.handled=none:=I.ok.hd hc
 have hl:=rv.length
 refine call_all_walk (wpAny_pyIter_list p.isList ?_)
 obtain ⟨o,n,eo,_⟩:=id p
 have hne:l≠s.heap.objs.size:=Nat.ne_of_lt (Heap.lt_size eo)
 refine ⟨s.heap.objs.size,_,_,_,_,_,fun i=>bs.getD i true,rfl,Walks.list hd s.heap.objs.size l hne its.toArray,⟨⟨_,Heap.get?_push_size _ rfl,rfl,rfl⟩,p.isList.push _⟩,fun i v s' Q' E' hv hQ'=>?_,fun h' tk hk=>?_⟩
 ·rw [Es rv hv]
  exact wpAny_truthy_bool hQ'
 ·have e:its.toArray.size=bs.length:=by rw [List.size_toArray,← hl,List.length_map]
  rw [e,all_range]
  have I1:Inv X pins σ H { s with heap:=s.heap.push { cls:=.type "list_iterator",data:=.fields #[.ref l,.int 0 0] } }:=I.kept (t':=s.toks) fun b o q=>Heap.get?_push_of_some _ q
  obtain ⟨f0,f1,f2,f3,f4,f5⟩:=I.fpOk (b:=s.heap.objs.size) (Nat.le_refl _) I.fresh
  exact ⟨.bl _,H,I1.turned (it:=s.heap.objs.size) (fun b o hb e=>hk b o (by simpa using hb) e) f0 f1 f3 f4 f5,rfl,q⟩
def LET:Str:="abcdefghijklmnopqrstuvwxyz"
theorem tD:LET.length=26:=by decide +kernel
def isNm (x:Str):Bool:=decide (1≤x.length) && decide (x.length≤8) && x.cps.toList.all fun c=>decide (97≤c∧c≤122)
end L2
namespace ZT
open PySem
open Sem (wp)
section
variable {prog:Program} {w:World} {A:Around} {E:Value→Shared→Prop} {s:Shared}
theorem Bm {it t:Addr} {i:Nat} {its:Array Value} {x:Value} {Q:Value→Shared→Prop} (ti:s.heap.IsTupleIter it t i) (tt:s.heap.IsTuple t its) (tx:its[i]?=some x)
  (k:∀ g,g.IsTupleIter it t (i+1)→Heap.SameBut it s.heap g→Q x { s with heap:=g }):wpAny (model prog w) A (Builtin.SmallTypes.nextOf (.ref it)) Q E s:=by
 obtain ⟨o,eo,ec,ed⟩:=id ti
 obtain ⟨ol,el,_,nl,dl⟩:=tt
 unfold Builtin.SmallTypes.nextOf
 refine wpAny_bind (wpAny_callSpecial?_slot (name:=Str.ofString "__next__") ti.typeIs F.slot_tuple_iterator_next (wpAny_call_entry F.slot_tuple_iterator_next ti.typeIs F.entry_tuple_iterator_next ?_ (F.args_tuple_iterator_next_1 _)))
 show wpAny _ _ (field (.ref it) 0 >>= _) _ _ s
 refine wpAny_bind (wpAny_field eo ed (x:=.ref t) rfl ?_)
 show wpAny _ _ (if (Value.ref t == Value.none)=true then _ else _) _ _ s
 rw [if_neg (by intro z; cases z)]
 show wpAny _ _ (field (.ref it) 1 >>= _) _ _ s
 refine wpAny_bind (wpAny_field eo ed (x:=.int i 0) rfl ?_)
 show wpAny _ _ (seqItems? (.ref t) >>= _) _ _ s
 refine wpAny_bind (wpAny_seqItems el dl ?_)
 simp only [Int.toNat_natCast,tx]
 refine wpAny_bind (wpAny_setField eo ed (by simp) (wpAny_pure ⟨x,rfl,wpAny_pure (k _ ?_ (Heap.SameBut.update ..))⟩))
 refine ⟨_,Heap.get?_update_self _ eo (Obj.isFreed_of_fields (Obj.data_mapFields ed _)),(Obj.cls_mapFields ..).trans ec,?_⟩
 rw [Obj.data_mapFields ed]
 simp [rawInt]
theorem Hy {it t:Addr} {i:Nat} {its:Array Value} {Q:Value→Shared→Prop} (hd:A.handled=none) (ti:s.heap.IsTupleIter it t i) (tt:s.heap.IsTuple t its) (tx:its[i]?=none)
  (k:∀ g e,Heap.ExtBut it s.heap g→(∃ o,g.get? e=some o∧o.cls=.type "StopIteration")→E (.ref e) { s with heap:=g }):wpAny (model prog w) A (Builtin.SmallTypes.nextOf (.ref it)) Q E s:=by
 obtain ⟨o,eo,ec,ed⟩:=id ti
 obtain ⟨ol,el,_,nl,dl⟩:=tt
 unfold Builtin.SmallTypes.nextOf
 refine wpAny_bind (wpAny_callSpecial?_slot (name:=Str.ofString "__next__") ti.typeIs F.slot_tuple_iterator_next (wpAny_call_entry F.slot_tuple_iterator_next ti.typeIs F.entry_tuple_iterator_next ?_ (F.args_tuple_iterator_next_1 _)))
 show wpAny _ _ (field (.ref it) 0 >>= _) _ _ s
 refine wpAny_bind (wpAny_field eo ed (x:=.ref t) rfl ?_)
 show wpAny _ _ (if (Value.ref t == Value.none)=true then _ else _) _ _ s
 rw [if_neg (by intro z; cases z)]
 show wpAny _ _ (field (.ref it) 1 >>= _) _ _ s
 refine wpAny_bind (wpAny_field eo ed (x:=.int i 0) rfl ?_)
 show wpAny _ _ (seqItems? (.ref t) >>= _) _ _ s
 refine wpAny_bind (wpAny_seqItems el dl ?_)
 simp only [Int.toNat_natCast,tx]
 refine wpAny_bind (wpAny_rule (wpAny_bind (wpAny_setField eo ed (by simp) ?_)))
 show wpAny _ _ (newExc (.type "StopIteration") [] >>= _) _ _ _
 refine wpAny_bind ?_
 simp only [newExc,newTuple]
 refine wpAny_bind (wpAny_newObj_type ?_ (by size_fits))
 refine wpAny_bind (m:=firstArgMember _ _) (wpAny_of_eq (a:=Value.none) (by first | rfl | (simp only [firstArgMember]; rfl)) ?_)
 refine wpAny_newObj_type ?_ (by size_fits)
 simp only [raiseNew]
 refine wpAny_bind (wpAny_handled ?_)
 first | rw [show A.in1.handled=none from hd] | rw [hd]
 refine wpAny_bind (wpAny_pure (wpAny_throw ?_))
 exact k _ _ (((Heap.SameBut.update ..).extBut.push _).push _) ⟨_,Heap.get?_push_size _ rfl,rfl⟩
structure Apart (z TI TO i1 i2 t1 t2:Addr):Prop where
 a1:TI≠z
 a2:TO≠z
 a3:i1≠z
 a4:i2≠z
 b1:TI≠TO
 b2:TI≠i1
 b3:TI≠i2
 b4:TO≠i1
 b5:TO≠i2
 b6:i1≠i2
 c1:t1≠z
 c2:t1≠TO
 c3:t1≠i1
 c4:t1≠i2
 d1:t2≠z
 d2:t2≠TO
 d3:t2≠i1
 d4:t2≠i2
end
end ZT
namespace L2
open PySem PySem.Spec PyProof.Rows
section
variable {X:Cx} {pins:List (Addr × Obj)} {σ:St} {H:Hp} {s:Shared} {h':Heap} {t':Nat} {ch:List Addr}
end
end L2
namespace M01
open PySem
def isW (c:Nat):Bool:=decide (97≤c∧c≤122) || decide (65≤c∧c≤90) || decide (48≤c∧c≤57)
abbrev S:=List (List Nat) × List Nat
def stp (st:S) (c:Nat):S:=if isW c=true then (st.1,st.2++[c]) else (if st.2=[] then st else (st.1++[st.2],[]))
def scn (l:List Nat):S:=l.foldl stp ([],[])
def fn (st:S):List (List Nat):=if st.2=[] then st.1 else st.1++[st.2]
def wds (l:List Nat):List (List Nat):=fn (scn l)
def cmp (st:S) (rest:List Nat):List (List Nat):=if st.2=[] then st.1 else st.1++[st.2++rest.takeWhile isW]
def bl (c:Nat):Nat:=if isW c=true then c else 32
theorem JB (c:Nat):Unicode.isSpace (bl c)=!isW c:=by
 unfold bl
 by_cases h:isW c=true
 ·rw [if_pos h,h]
  have hc:c < 123:=by
   unfold isW at h
   simp only [Bool.or_eq_true,decide_eq_true_eq] at h
   omega
  have all:∀ d,d < 123→isW d=true→Unicode.isSpace d=false:=by decide +kernel
  rw [all c hc h]
  rfl
 ·have h':isW c=false:=by simpa using h
  rw [if_neg h,h']
  decide +kernel
theorem str_len (l:List Nat):(⟨l.toArray⟩:Str).length=l.length:=by simp [Str.length]
theorem rE:∀ (l:List Nat) (st:KWd.St) (q:S),st.1=q.1.map (fun r=>(⟨r.toArray⟩:Str))→st.2=⟨q.2.toArray⟩ →
  ((l.map bl).foldl KWd.step st).1=((l.foldl stp q).1).map (fun r=>(⟨r.toArray⟩:Str))∧((l.map bl).foldl KWd.step st).2=⟨(l.foldl stp q).2.toArray⟩
 | [],st,q,h1,h2=>⟨h1,h2⟩
 | c :: r,st,q,h1,h2=>by
  rw [List.map_cons,List.foldl_cons,List.foldl_cons]
  refine rE r _ _ ?_ ?_
  ·unfold KWd.step stp
   rw [JB]
   by_cases h:isW c=true
   ·rw [h]
    simp only [Bool.not_true,Bool.false_eq_true,if_false,if_true]
    exact h1
   ·have h':isW c=false:=by simpa using h
    rw [h']
    simp only [Bool.not_false,if_true,Bool.false_eq_true,if_false]
    by_cases e:q.2=[]
    ·rw [if_pos (by rw [h2,e]; rfl),if_pos e]
     exact h1
    ·have hl:¬ st.2.length=0:=by
      rw [h2,str_len]
      intro z
      exact e (List.length_eq_zero_iff.mp z)
     rw [if_neg hl,if_neg e]
     show st.1++[st.2]=(q.1++[q.2]).map _
     rw [List.map_append,h1,h2]
     rfl
  ·unfold KWd.step stp
   rw [JB]
   by_cases h:isW c=true
   ·rw [h]
    simp only [Bool.not_true,Bool.false_eq_true,if_false,if_true]
    rw [h2]
    show Str.mk (q.2.toArray ++ #[bl c])=_
    unfold bl
    rw [if_pos h]
    congr 1
    simp
   ·have h':isW c=false:=by simpa using h
    rw [h']
    simp only [Bool.not_false,if_true,Bool.false_eq_true,if_false]
    by_cases e:q.2=[]
    ·rw [if_pos (by rw [h2,e]; rfl),if_pos e]
     exact h2
    ·have hl:¬ st.2.length=0:=by
      rw [h2,str_len]
      intro z
      exact e (List.length_eq_zero_iff.mp z)
     rw [if_neg hl,if_neg e]
     rfl
theorem Aw (l:List Nat):Txt.words ⟨(l.map bl).toArray⟩=(wds l).map (fun r=>(⟨r.toArray⟩:Str)):=by
 rw [KWd.words_scan]
 obtain ⟨h1,h2⟩:=rE l ([],Str.empty) ([],[]) rfl rfl
 have e:KWd.scan ⟨(l.map bl).toArray⟩=(l.map bl).foldl KWd.step ([],Str.empty):=by
  unfold KWd.scan
  simp
 unfold KWd.fin wds fn scn
 rw [e,h1,h2,str_len]
 by_cases z:(l.foldl stp ([],[])).2=[]
 ·rw [if_pos (by rw [z]; rfl),if_pos z]
 ·rw [if_neg (fun q=>z (List.length_eq_zero_iff.mp q)),if_neg z,List.map_append]
  rfl
theorem vh:∀ (l:List Nat) (q:S),(l.foldl stp q).1.length+(l.foldl stp q).2.length≤q.1.length+q.2.length+l.length
 | [],q=>by simp
 | c :: r,q=>by
  rw [List.foldl_cons]
  have ih:=vh r (stp q c)
  have h:(stp q c).1.length+(stp q c).2.length≤q.1.length+q.2.length+1:=by
   unfold stp
   by_cases h:isW c=true
   ·rw [if_pos h]
    simp only [List.length_append,List.length_cons,List.length_nil]
    omega
   ·rw [if_neg h]
    by_cases e:q.2=[]
    ·rw [if_pos e]; omega
    ·rw [if_neg e]
     have:0 < q.2.length:=List.length_pos_iff.mpr e
     simp only [List.length_append,List.length_cons,List.length_nil]
     omega
  rw [List.length_cons]
  omega
theorem J1 (l:List Nat):(wds l).length≤l.length:=by
 have h:=vh l ([],[])
 simp only [List.length_nil,Nat.zero_add] at h
 unfold wds fn
 show (if (l.foldl stp ([],[])).2=[] then _ else _:List (List Nat)).length≤_
 by_cases e:(l.foldl stp ([],[])).2=[]
 ·rw [if_pos e]
  show (l.foldl stp ([],[])).1.length≤_
  omega
 ·rw [if_neg e,List.length_append]
  have:0 < (l.foldl stp ([],[])).2.length:=List.length_pos_iff.mpr e
  show (l.foldl stp ([],[])).1.length+1≤_
  omega
end M01
namespace L2
open PySem PySem.Spec PyProof.Rows
theorem rF {v:Value} {o:Option Int} (h:IsPart v o):∃ q:Option (Int × Tok),v=partValue q∧o=q.map (·.1):=by
 cases h with
 | none=>exact ⟨none,rfl,rfl⟩
 | int i t=>exact ⟨some (i,t),rfl,rfl⟩
def NT:V→Option Int→Option Int→Hp→VK→Prop:=fun x lo hi H Q=>∃ y:Str,x=.str y∧y.length≤sizeLine∧Q (.str (Txt.slice y lo hi)) H
theorem Ae {X:Cx}:SlR X NT:=by
 intro pins s σ H x v vl vu lo hi sl Q I rx hs pl pu h
 obtain ⟨y,rfl,hz,q⟩:=h
 obtain ⟨t,rfl⟩:=rx
 obtain ⟨ql,rfl,rfl⟩:=rF pl
 obtain ⟨qu,rfl,rfl⟩:=rF pu
 refine ⟨"str",_,F.slot_str_getitem.lookup,typeIs_str _ _ _,?_⟩
 refine wpAny_getItem_str_slice (l:=ql) (u:=qu) (st:=none) hs rfl ?_
 exact post_val_or_str ⟨Nat.le_trans (Txt.slice_le y _ _) hz,fun t' k=>⟨.str _,H,I.tok _,⟨_,rfl⟩,q⟩⟩
theorem oU (l:List (Str × Tok)):Vals ((l.map (·.1)).map V.str) (strValues l):=by
 induction l with
 | nil=>exact .nil
 | cons p r ih=>exact .cons ⟨p.2,rfl⟩ ih
theorem BZ {X:Cx}:MtR X "str.split" (fun x xs H Q=>∃ y:Str,x=.str y∧xs=[]∧y.length≤100000∧∀ l,H l=none→Q (.ref l) (upd H l (.lst ((Txt.words y).map V.str)))):=by
 intro pins s σ H x xs v us Q I rx r h
 obtain ⟨y,rfl,rfl,hz,q⟩:=h
 obtain ⟨t,rfl⟩:=rx
 cases r
 have hb:=bR
 have e1:=(StrLaws.sw_weight y).1
 have e2:=StrLaws.len_le_wsum (Builtin.Str.spaceWords y (y.length+1))
 have hn:(Builtin.Str.spaceWords y (y.length+1)).length≤sizeLine:=by omega
 refine call_meets F.slot_str_split (typeIs_str _ _ _) F.entry_str_split (F.args_str_split_1 _) (meets_str_split_space y t (by omega) hn) ?_
 have fin:∀ (l:List (Str × Tok)) (tk:Nat),l.map (·.1)=Txt.words y→l.length≤sizeLine→EP X pins σ Q (.ref s.heap.objs.size) { s with heap:=s.heap.push { cls:=.type "list",data:=.seq (strValues l).toArray },toks:=tk }:=fun l tk e hl=>by
  refine ⟨.ref s.heap.objs.size,_,I.lnew (its:=strValues l) (ys:=(l.map (·.1)).map V.str) (oU l) (by rw [List.length_map,List.length_map]; exact hl),rfl,?_⟩
  rw [e]
  exact q _ I.fresh
 cases hw:Builtin.Str.spaceWords y (y.length+1) == [(0,y.length)]
 ·simp only [Bool.false_eq_true,if_false]
  rw [strsFrom_eq]
  have et:=numbered_texts s.toks (wordsOf y)
  refine fin (numbered s.toks (wordsOf y)) _ (et.trans (if_neg (ne_true_of_eq_false hw)).symm) ?_
  have el:=congrArg List.length et
  rw [List.length_map] at el
  rw [el]
  unfold wordsOf
  rw [List.length_map]
  exact hn
 ·simp only [if_true]
  exact fin [(y,t)] s.toks (if_pos hw).symm (by show 1≤sizeLine; omega)
theorem G5 (a c:Nat):decide (([c]:List Nat) < [a])=decide (c < a):=by
 rw [Bool.eq_iff_iff]
 simp only [decide_eq_true_eq]
 constructor
 ·intro h
  cases h with
  | cons h=>cases h
  | rel h=>exact h
 ·intro h
  exact List.Lex.rel h
def Dv:R2:=fun x y H Q=>∃ a c:Nat,x=.str ⟨#[a]⟩∧y=.str ⟨#[c]⟩∧Q (.bl (decide (a≤c))) H
theorem oh {X:Cx}:OpR X (compareOp .LtE) Dv:=by
 intro pins s σ H x y v u Q I rx ry h
 obtain ⟨a,c,rfl,rfl,q⟩:=h
 obtain ⟨t,rfl⟩:=rx
 obtain ⟨t',rfl⟩:=ry
 refine PySem.P.le_str ?_
 have e:(!decide (([c]:List Nat) < [a]))=decide (a≤c):=by
  rw [G5,Bool.eq_iff_iff]
  simp
 show EP X pins σ Q (.bool (!decide (([c]:List Nat) < [a]))) s
 rw [e]
 exact ⟨.bl _,H,I,rfl,q⟩
theorem kI {i a b c:Nat} {x z:Str} {σ:St} {H:Hp} {Q:VK} (hx:x=⟨#[a]⟩) (hz:z=⟨#[b]⟩) (h0:σ[i]?=some (some (.str ⟨#[c]⟩))) (q:Q (.bl (decide (a≤c∧c≤b))) H) :
  oJ Dv Dv (tC (.str x)) (xr i) (tC (.str z)) σ H Q:=by
 subst hx
 subst hz
 refine ⟨_,h0,a,c,rfl,rfl,_,rfl,?_⟩
 refine fV (fun h=>?_) (fun h=>?_)
 ·refine ⟨c,b,rfl,rfl,?_⟩
  have h':a≤c:=of_decide_eq_true h
  have e:decide (a≤c∧c≤b)=decide (c≤b):=decide_eq_decide.mpr ⟨fun z=>z.2,fun z=>⟨h',z⟩⟩
  rw [← e]
  exact q
 ·have e:decide (a≤c∧c≤b)=false:=decide_eq_false fun z=>h (decide_eq_true z.1)
  rw [e] at q
  exact q
end L2
namespace L2
open PySem PySem.Spec PyProof.Rows
structure Cal (P:Program) (w:World) (K:PySem.W.Frag) (mg:Str→Option Value) (base:Heap) (x:Str) (k:Nat) (ps:List Str) (sp:Sp):Prop where
 ex:∃ (f:Addr) (fd:FuncData),m9 P w K mg base CX0 k f fd ps sp∧Binds K fd ps []∧PySem.W.keepIn K (.ref f)=true∧mg x=some (.ref f)
structure Has (K:PySem.W.Frag) (mg:Str→Option Value) (x:Str) (st:Stmt) (ps:List Str):Prop where
 ex:∃ (f:Addr) (fd:FuncData),Fun K x x st f fd∧Binds K fd ps []∧mg x=some (.ref f)
section
variable {P:Program} {w:World} {K:PySem.W.Frag} {mg:Str→Option Value} {base:Heap}
theorem Has.cal {x:Str} {st:Stmt} {ps:List Str} {k:Nat} {sp:Sp} (h:Has K mg x st ps) (ok:∀ (f:Addr) (fd:FuncData),Fun K x x st f fd→mg x=some (.ref f)→Binds K fd ps []→m9 P w K mg base CX0 k f fd ps sp):Cal P w K mg base x k ps sp:=by
 obtain ⟨f,fd,F,b,m⟩:=h.ex
 exact ⟨f,fd,ok f fd F m b,b,F.kp,m⟩
theorem Has.mk' {x:Str} {st:Stmt} {N ps:List Str} {k:Nat} {sp:Sp} (h:Has K mg x st ps) (S:aK N ps (aC st)) (len:∀ vs H Q E,sp vs H Q E→vs.length=ps.length)
  (hbody:∀ (f:Addr) (cdv:Value) (A:Around) (outer:List Env) (s:Shared) (H:Hp) (vs:List V) (Q:VK) (E:XK),jw k (A.deeper (envOfC x (aC st) s.heap.objs.size f cdv))→sp vs H Q E →
   ∃ t,PSs (uK CX0 P w K mg base N x (aC st) f cdv A outer s H E).nox (eF st) t∧t { nx:=fun _ H'=>Q .non H',rt:=Q } (start N vs) H):Cal P w K mg base x (k+1) ps sp :=
 h.cal fun f fd F _ _=>F.ok S len (hbody f)
end
theorem aY {X:Cx} {x:Str} {k n:Nat} {ps:List Str} {sp:Sp} {e:Expr} {es:List Expr} {t:TA} {p pos:Pos} (C:Cal X.prog X.w X.K X.mg X.base x k ps sp) (hr:jw n X.A) (hk:k≤n) (hg:Gl X x) (ha:PA X (e :: es) t)
  (hdb:(x == ("__debug__" : Str))=false:=by decide) (he:starEach (e :: es) X.env=(false,eval e X.env) :: starEach es X.env:=by rfl) (hpl:(backTo pos (starEach es X.env)).any (·.1)=false:=by rfl) :
  PE X (.Call (.Name x p) (e :: es) [] pos) (xJ sp [] E0 t):=by
 obtain ⟨f,fd,F,b,kp,m⟩:=C.ex
 exact zq F (hr.mono hk) hg m kp b .nil Hu ha hdb he hpl
inductive D where
 | non | bl (b:Bool) | int (i:Int) | str (x:Str) | tup (ds:List D)
mutual
def Den (H:Hp):V→D→Prop
 | v,.non=>v=.non
 | v,.bl b=>v=.bl b
 | v,.int i=>v=.int i
 | v,.str x=>v=.str x
 | v,.tup ds=>∃ (p:Addr) (vs:List V),v=.ref p∧H p=some (.tup vs)∧cg H vs ds
def cg (H:Hp):List V→List D→Prop
 | [],[]=>True
 | v :: vs,d :: ds=>Den H v d∧cg H vs ds
 | _,_=>False
end
mutual
theorem Den.same {H H':Hp} (e:Same H H'):∀ {d:D} {v:V},Den H v d→Den H' v d
 | .non,_,h=>h
 | .bl _,_,h=>h
 | .int _,_,h=>h
 | .str _,_,h=>h
 | .tup ds,_,h=>by
  obtain ⟨p,vs,rfl,hp,hd⟩:=h
  exact ⟨p,vs,rfl,e _ _ hp,cg.same e hd⟩
theorem cg.same {H H':Hp} (e:Same H H'):∀ {ds:List D} {vs:List V},cg H vs ds→cg H' vs ds
 | [],[],_=>trivial
 | _ :: _,_ :: _,h=>⟨Den.same e h.1,cg.same e h.2⟩
 | [],_ :: _,h=>h.elim
 | _ :: _,[],h=>h.elim
end
theorem cg.len {H:Hp}:∀ {ds:List D} {vs:List V},cg H vs ds→vs.length=ds.length
 | [],[],_=>rfl
 | _ :: ds,_ :: vs,h=>by rw [List.length_cons,List.length_cons,cg.len h.2]
 | [],_ :: _,h=>h.elim
 | _ :: _,[],h=>h.elim
theorem cg.at_ {H:Hp}:∀ {ds:List D} {vs:List V} {i:Nat} {v:V},cg H vs ds→vs[i]?=some v→∃ d,ds[i]?=some d∧Den H v d
 | [],[],i,v,_,h=>by simp at h
 | d :: ds,_ :: vs,0,v,h,e=>by
  simp at e
  subst e
  exact ⟨d,rfl,h.1⟩
 | _ :: ds,_ :: vs,i+1,v,h,e=>cg.at_ (i:=i) h.2 (by simpa using e)
 | [],_ :: _,_,_,h,_=>h.elim
 | _ :: _,[],_,_,h,_=>h.elim
theorem cg.strs {H:Hp}:∀ xs:List Str,cg H (xs.map V.str) (xs.map D.str)
 | []=>trivial
 | _ :: r=>⟨rfl,cg.strs r⟩
theorem cg.snoc {H:Hp} {v:V} {d:D} (hd:Den H v d):∀ {ds:List D} {vs:List V},cg H vs ds→cg H (vs++[v]) (ds++[d])
 | [],[],_=>⟨hd,trivial⟩
 | _ :: _,_ :: _,h=>⟨h.1,cg.snoc hd h.2⟩
 | [],_ :: _,h=>h.elim
 | _ :: _,[],h=>h.elim
def fH:Nat→D→Prop
 | 0,d=>d≠.non∧∀ ds,d≠.tup ds
 | n+1,d=>d≠.non∧∀ ds,d=.tup ds→ds.length≤100000∧∀ e∈ds,fH n e
theorem fH.up:∀ {n:Nat} {d:D},fH n d→fH (n+1) d
 | 0,d,h=>⟨h.1,fun ds e=>absurd e (h.2 ds)⟩
 | n+1,d,h=>⟨h.1,fun ds e=>⟨(h.2 ds e).1,fun x hx=>((h.2 ds e).2 x hx).up⟩⟩
theorem fH.ne:∀ {n:Nat} {d:D},fH n d→d≠.non
 | 0,_,h=>h.1
 | _+1,_,h=>h.1
theorem JZ {xs:List Str} (h:xs.length≤100000):fH 1 (.tup (xs.map D.str)):=by
 refine ⟨(fun z=>nomatch z),fun ds e=>?_⟩
 injection e with e
 subst e
 refine ⟨by rw [List.length_map]; exact h,fun d hd=>?_⟩
 obtain ⟨x,_,rfl⟩:=List.mem_map.mp hd
 exact ⟨(fun z=>nomatch z),fun ds e=>nomatch e⟩
theorem jA (x:Str):fH 0 (.str x):=⟨(fun z=>nomatch z),fun _ z=>nomatch z⟩
theorem vq (x:Int):fH 0 (.int x):=⟨(fun z=>nomatch z),fun _ z=>nomatch z⟩
theorem Has.never {P:Program} {w:World} {K:PySem.W.Frag} {mg:Str→Option Value} {base:Heap} {x:Str} {st:Stmt} {ps:List Str} {sp:Sp} (h:Has K mg x st ps) (no:∀ vs H Q E,¬ sp vs H Q E):Cal P w K mg base x 0 ps sp :=
 h.cal fun f fd F _ _=>⟨fun vs H Q E z=>absurd z (no vs H Q E),fun A outer s H args us vs Q E _ _ _ _ z=>absurd z (no vs H Q E)⟩
theorem aQ {H:Hp} {ds:List D} {v:V} (h:Den H v (.tup ds)):∃ (p:Addr) (vs:List V),v=.ref p∧H p=some (.tup vs)∧cg H vs ds:=h
mutual
theorem Den.keepT {H H':Hp} (e:∀ (b:Addr) (vs:List V),H b=some (.tup vs)→H' b=some (.tup vs)):∀ {d:D} {v:V},Den H v d→Den H' v d
 | .non,_,h=>h
 | .bl _,_,h=>h
 | .int _,_,h=>h
 | .str _,_,h=>h
 | .tup ds,_,h=>by
  obtain ⟨p,vs,rfl,hp,hd⟩:=h
  exact ⟨p,vs,rfl,e _ _ hp,cg.keepT e hd⟩
theorem cg.keepT {H H':Hp} (e:∀ (b:Addr) (vs:List V),H b=some (.tup vs)→H' b=some (.tup vs)):∀ {ds:List D} {vs:List V},cg H vs ds→cg H' vs ds
 | [],[],_=>trivial
 | _ :: _,_ :: _,h=>⟨Den.keepT e h.1,cg.keepT e h.2⟩
 | [],_ :: _,h=>h.elim
 | _ :: _,[],h=>h.elim
end
section
variable {X:Cx} {K:PySem.W.Frag} {o e:Expr} {es:List Expr} {to:TE} {t:TA} {name:Str} {apos cpos:Pos} {T id:String} {r:V→List V→Hp→VK→Prop}
theorem Bw (hK:X.K=K):IxR X (Lf K):=by subst hK; exact cC
theorem fL (hK:X.K=K):IxR X (Lz K):=by subst hK; exact aO
theorem wB (hK:X.K=K):OpR X (compareOp .In) (rIn K false):=by subst hK; exact iD
theorem pK (hK:X.K=K):OpR X (compareOp .NotIn) (rIn K true):=by subst hK; exact ig
end
end L2
namespace L2
open PySem PySem.Spec PyProof.Rows
section
variable {κ:Type} [DecidableEq κ]
def dU (kvs:List (κ × V)) (k:κ):Option V:=(kvs.find? fun kv=>decide (kv.1=k)).map (·.2)
def putK (kvs:List (κ × V)) (k:κ) (v:V):List (κ × V) :=
 if (kvs.any fun kv=>decide (kv.1=k))=true then kvs.map (fun kv=>if kv.1=k then (kv.1,v) else kv) else kvs++[(k,v)]
theorem cj {p:κ × V} {r:List (κ × V)} {k:κ} (e:p.1=k):dU (p :: r) k=some p.2:=by simp [dU,List.find?_cons,e]
theorem bY {p:κ × V} {r:List (κ × V)} {k:κ} (e:¬ p.1=k):dU (p :: r) k=dU r k:=by simp [dU,List.find?_cons,e]
theorem jJ (k:κ):∀ kvs:List (κ × V),(kvs.any fun kv=>decide (kv.1=k))=(dU kvs k).isSome
 | []=>rfl
 | p :: r=>by
  rw [List.any_cons]
  by_cases e:p.1=k
  ·simp only [cj e,decide_eq_true e,Bool.true_or,Option.isSome_some]
  ·rw [bY e,decide_eq_false e,Bool.false_or]; exact jJ k r
theorem vN (k j:κ) (y:V):∀ kvs:List (κ × V),dU (kvs.map fun kv=>if kv.1=k then (kv.1,y) else kv) j=(dU kvs j).map fun x=>if j=k then y else x
 | []=>rfl
 | p :: r=>by
  have ih:=vN k j y r
  rw [List.map_cons]
  by_cases h:p.1=k
  ·rw [if_pos h]
   by_cases e:p.1=j
   ·rw [cj (p:=(p.1,y)) e,cj e,Option.map_some,if_pos (e.symm.trans h)]
   ·rw [bY (p:=(p.1,y)) e,bY e,ih]
  ·rw [if_neg h]
   by_cases e:p.1=j
   ·rw [cj (p:=p) e,cj e,Option.map_some,if_neg (fun z=>h (e.trans z))]
   ·rw [bY (p:=p) e,bY e,ih]
theorem rZ (k j:κ) (y:V):∀ kvs:List (κ × V),dU kvs k=none→dU (kvs++[(k,y)]) j=if j=k then some y else dU kvs j
 | [],_=>by
  by_cases e:k=j
  ·rw [if_pos e.symm]; exact cj (p:=(k,y)) e
  ·rw [if_neg (fun z=>e z.symm)]; exact bY (p:=(k,y)) e
 | p :: r,hn=>by
  rw [List.cons_append]
  have hk:¬ p.1=k:=fun z=>by rw [cj z] at hn; cases hn
  rw [bY hk] at hn
  have ih:=rZ k j y r hn
  by_cases e:p.1=j
  ·rw [cj e,cj e,if_neg (fun z=>hk (e.trans z))]
  ·rw [bY e,bY e,ih]
theorem Cw (kvs:List (κ × V)) (k j:κ) (y:V):dU (putK kvs k y) j=if j=k then some y else dU kvs j:=by
 unfold putK
 by_cases a:(kvs.any fun kv=>decide (kv.1=k))=true
 ·rw [if_pos a,vN]
  rw [jJ] at a
  by_cases e:j=k
  ·obtain ⟨x,hx⟩:=Option.isSome_iff_exists.mp a
   rw [if_pos e,e,hx,Option.map_some,if_pos rfl]
  ·rw [if_neg e]
   cases dU kvs j with
   | none=>rfl
   | some x=>rw [Option.map_some,if_neg e]
 ·rw [if_neg a]
  refine rZ k j y kvs ?_
  rw [jJ] at a
  cases q:dU kvs k with
  | none=>rfl
  | some x=>rw [q] at a; exact (a rfl).elim
theorem gk (kvs:List (κ × V)) (k:κ) (v:V):(putK kvs k v).length≤kvs.length+1:=by
 unfold putK
 split
 ·rw [List.length_map]; omega
 ·rw [List.length_append,List.length_cons,List.length_nil]; omega
theorem Cv {kvs:List (κ × V)} {k:κ} (v:V) (h:dU kvs k=none):putK kvs k v=kvs++[(k,v)]:=by
 unfold putK
 rw [jJ,h]
 exact if_neg (by decide)
theorem xq.isSome_eq {o:Option V} {u:Option Value} (r:xq o u):o.isSome=u.isSome:=by
 cases o with
 | none=>cases u with
  | none=>rfl
  | some _=>exact (show False from r).elim
 | some _=>cases u with
  | none=>exact (show False from r).elim
  | some _=>rfl
theorem xq.getD {o:Option V} {u:Option Value} {d:V} {d':Value} (r:xq o u) (rd:RelV d d'):RelV (o.getD d) (u.getD d'):=by
 cases o with
 | none=>cases u with
  | none=>exact rd
  | some _=>exact (show False from r).elim
 | some _=>cases u with
  | none=>exact (show False from r).elim
  | some _=>exact r
theorem KV.val {kvs:List (κ × V)} {vs:List (κ × Value)} (r:KV kvs vs) (k:κ):xq (dU kvs k) (valueAt vs k):=by
 unfold KV at r
 induction r with
 | nil=>exact True.intro
 | @cons p q ps qs h t ih =>
  obtain ⟨h1,h2⟩:=h
  by_cases e:p.1=k
  ·have e':q.1=k:=h1.symm.trans e
   have b:valueAt (q :: qs) k=some q.2:=by simp [valueAt,List.find?_cons,e']
   rw [cj e,b]; exact h2
  ·have e':¬ q.1=k:=fun z=>e (h1.trans z)
   have b:valueAt (q :: qs) k=valueAt qs k:=by simp [valueAt,List.find?_cons,e']
   rw [bY e,b]; exact ih
theorem KV.any {kvs:List (κ × V)} {vs:List (κ × Value)} (r:KV kvs vs) (k:κ):(kvs.any fun kv=>decide (kv.1=k))=vs.any fun kv=>decide (kv.1=k):=by
 unfold KV at r
 induction r with
 | nil=>rfl
 | cons h t ih=>rw [List.any_cons,List.any_cons,ih,h.1]
theorem KV.repl {kvs:List (κ × V)} {vs:List (κ × Value)} (r:KV kvs vs) (k:κ) {y:V} {u:Value} (ry:RelV y u) :
  KV (kvs.map fun kv=>if kv.1=k then (kv.1,y) else kv) (vs.map fun kv=>if kv.1=k then (kv.1,u) else kv):=by
 unfold KV at r ⊢
 induction r with
 | nil=>exact .nil
 | @cons p q ps qs h t ih =>
  rw [List.map_cons,List.map_cons]
  refine .cons ?_ ih
  obtain ⟨h1,h2⟩:=h
  by_cases e:p.1=k
  ·rw [if_pos e,if_pos (h1.symm.trans e)]; exact ⟨h1,ry⟩
  ·rw [if_neg e,if_neg (fun z=>e (h1.trans z))]; exact ⟨h1,h2⟩
theorem KV.put {kvs:List (κ × V)} {vs:List (κ × Value)} (r:KV kvs vs) (k:κ) {y:V} {u:Value} (ry:RelV y u):KV (putK kvs k y) (stored vs k u):=by
 unfold putK stored
 rw [r.any k]
 by_cases e:(vs.any fun kv=>decide (kv.1=k))=true
 ·rw [if_pos e,if_pos e]; exact r.repl k ry
 ·rw [if_neg e,if_neg e]; exact Paired.snoc r ⟨rfl,ry⟩
theorem KV.keys {kvs:List (κ × V)} {vs:List (κ × Value)} (r:KV kvs vs):kvs.map (·.1)=vs.map (·.1):=by
 unfold KV at r
 induction r with
 | nil=>rfl
 | cons h t ih=>rw [List.map_cons,List.map_cons,ih,h.1]
theorem KV.length {kvs:List (κ × V)} {vs:List (κ × Value)} (r:KV kvs vs):kvs.length=vs.length:=Paired.length r
end
theorem BJ {P:Program} {w:World} {k:Key} {u:Value} (r:RelV (kV k) u):(cR P w).is k u=true:=by
 cases k with
 | inl i=>obtain ⟨t,e⟩:=(show ∃ t,u=Value.int i t from r); subst e; exact ux P w i t
 | inr x=>obtain ⟨t,e⟩:=(show ∃ t,u=Value.str x t from r); subst e; exact tR P w x t
theorem sE {P:Program} {w:World}:∀ {ks:List Key} {us:List Value},Vals (ks.map kV) us→ItemsAre (cR P w) ks us
 | [],_,r=>by rw [List.map_nil] at r; cases r; exact .nil
 | k :: ks,_,r=>by
  rw [List.map_cons] at r
  cases r with
  | cons h t=>exact .cons (BJ h) (sE t)
abbrev KT (H:Hp):List (List Key × V)→List (List Key × Addr × Value)→Prop:=Paired fun p q=>p.1=q.1∧H q.2.1=some (.tup (p.1.map kV))∧RelV p.2 q.2.2
theorem KT.val {H:Hp} {kvs:List (List Key × V)} {xs:List (List Key × Addr × Value)} (r:KT H kvs xs) (k:List Key):xq (dU kvs k) ((atKey xs k).map (·.2)):=by
 induction r with
 | nil=>exact True.intro
 | @cons p q ps qs h t ih =>
  obtain ⟨h1,_,h2⟩:=h
  by_cases e:p.1=k
  ·have e':q.1=k:=h1.symm.trans e
   have b:atKey (q :: qs) k=some q.2:=by simp [atKey,List.find?_cons,e']
   rw [cj e,b]; exact h2
  ·have e':¬ q.1=k:=fun z=>e (h1.trans z)
   have b:atKey (q :: qs) k=atKey qs k:=by simp [atKey,List.find?_cons,e']
   rw [bY e,b]; exact ih
theorem KT.repl {H:Hp} {kvs:List (List Key × V)} {xs:List (List Key × Addr × Value)} (r:KT H kvs xs) (k:List Key) {y:V} {u:Value} (ry:RelV y u) :
  KT H (kvs.map fun kv=>if kv.1=k then (kv.1,y) else kv) (xs.map (putAt k u)):=by
 induction r with
 | nil=>exact .nil
 | @cons p q ps qs h t ih =>
  rw [List.map_cons,List.map_cons]
  refine .cons ?_ ih
  obtain ⟨h1,h2,h3⟩:=h
  unfold putAt
  by_cases e:p.1=k
  ·rw [if_pos e,if_pos (h1.symm.trans e)]; exact ⟨h1,h2,ry⟩
  ·rw [if_neg e,if_neg (fun z=>e (h1.trans z))]; exact ⟨h1,h2,h3⟩
theorem KT.put {H:Hp} {kvs:List (List Key × V)} {xs:List (List Key × Addr × Value)} (r:KT H kvs xs) (k:List Key) {b:Addr} {y:V} {u:Value} (hb:H b=some (.tup (k.map kV))) (ry:RelV y u) :
  KT H (putK kvs k y) (storedH xs k b u):=by
 have e:(kvs.any fun kv=>decide (kv.1=k))=(atKey xs k).isSome:=by
  rw [jJ,(r.val k).isSome_eq,Option.isSome_map]
 unfold putK storedH
 rw [e]
 by_cases q:(atKey xs k).isSome=true
 ·rw [if_pos q,if_pos q]; exact r.repl k ry
 ·rw [if_neg q,if_neg q]; exact Paired.snoc r ⟨rfl,hb,ry⟩
theorem KT.keeps {H H':Hp} {kvs:List (List Key × V)} {xs:List (List Key × Addr × Value)} (r:KT H kvs xs) (ht:∀ b ys,H b=some (.tup ys)→H' b=some (.tup ys)):KT H' kvs xs :=
 Paired.mapP r fun _ _ z=>⟨z.1,ht _ _ z.2.1,z.2.2⟩
section
variable {P:Program} {w:World} {H:Hp} {h:Heap} {a:Addr}
theorem Jj {u:HO} (ok:HOk P w H h) (e:Rd H a u):dZ P w H h a u:=e.ok ok
theorem Fg {kvs:List (Key × V)} (ok:HOk P w H h) (e:Rd H a (.dK kvs)):kvs.length≤sizeLine∧(a == sysModules)=false∧∃ vs,KV kvs vs∧h.DictOf (cR P w) a vs :=
 show dZ P w H h a (.dK kvs) from Jj ok e
theorem Dh {kvs:List (Key × V)} (ok:HOk P w H h) (e:H a=some (.dK kvs)):kvs.length≤sizeLine∧(a == sysModules)=false∧∃ vs,KV kvs vs∧h.DictOf (cR P w) a vs:=Fg ok (.inl e)
theorem Ah {ks:List Key} (ok:HOk P w H h) (e:H a=some (.tup (ks.map kV))):(tupleKind (cR P w)).is h ks a:=by
 obtain ⟨_,its,r,o,h1,h2,n,h3⟩:=(show dZ P w H h a (.tup (ks.map kV)) from ok a _ e)
 exact ⟨o,its.toArray,n,h1,h2,h3,by simpa using sE r⟩
theorem G6 {kvs:List (List Key × V)} (ok:HOk P w H h) (e:Rd H a (.dT kvs)):kvs.length≤sizeLine∧(a == sysModules)=false ∧
  ∃ xs,KT H kvs xs∧h.DictOfH (tupleKind (cR P w)) a xs:=by
 obtain ⟨z,y,xs,r,o,es,ep,h1,h2,h3,h4,h5⟩:=(show dZ P w H h a (.dT kvs) from Jj ok e)
 refine ⟨z,y,xs,r,o,es,ep,h1,h2,h3,h4,fun x hx=>?_,h5⟩
 have all:∀ {l:List (List Key × V)} {m:List (List Key × Addr × Value)},KT H l m→∀ x∈m,(tupleKind (cR P w)).is h x.1 x.2.1:=by
  intro l m q
  induction q with
  | nil=>intro x hx; exact nomatch hx
  | @cons p q ps qs hq t ih =>
   intro x hx
   rcases List.mem_cons.mp hx with e | hx
   ·subst e
    exact Ah ok (by rw [← hq.1]; exact hq.2.1)
   ·exact ih x hx
 exact all r x hx
theorem Kr {kvs:List (List Key × V)} (ok:HOk P w H h) (e:H a=some (.dT kvs)):kvs.length≤sizeLine∧(a == sysModules)=false ∧
  ∃ xs,KT H kvs xs∧h.DictOfH (tupleKind (cR P w)) a xs:=G6 ok (.inl e)
end
def nG (H:Hp) (a:Addr) (y:V) (r:Option V):Prop :=
 (∃ kvs k,Rd H a (.dK kvs)∧y=kV k∧r=dU kvs k)∨∃ kvs k b,Rd H a (.dT kvs)∧y=.ref b∧H b=some (.tup (k.map kV))∧r=dU kvs k
def uJ (H:Hp) (a:Addr) (y v:V) (H':Hp):Prop :=
 (∃ kvs k,H a=some (.dK kvs)∧y=kV k∧kvs.length < sizeLine∧H'=upd H a (.dK (putK kvs k v))) ∨
 ∃ kvs k b,H a=some (.dT kvs)∧y=.ref b∧H b=some (.tup (k.map kV))∧kvs.length < sizeLine∧H'=upd H a (.dT (putK kvs k v))
theorem nG.k {H:Hp} {a:Addr} {kvs:List (Key × V)} {k:Key} (e:H a=some (.dK kvs)):nG H a (kV k) (dU kvs k):=.inl ⟨kvs,k,.inl e,rfl,rfl⟩
theorem nG.t {H:Hp} {a b:Addr} {kvs:List (List Key × V)} {k:List Key} (e:H a=some (.dT kvs)) (eb:H b=some (.tup (k.map kV))):nG H a (.ref b) (dU kvs k):=.inr ⟨kvs,k,b,.inl e,rfl,eb,rfl⟩
theorem uJ.k {H:Hp} {a:Addr} {kvs:List (Key × V)} {k:Key} {v:V} (e:H a=some (.dK kvs)) (hl:kvs.length < sizeLine):uJ H a (kV k) v (upd H a (.dK (putK kvs k v))):=.inl ⟨kvs,k,e,rfl,hl,rfl⟩
theorem uJ.t {H:Hp} {a b:Addr} {kvs:List (List Key × V)} {k:List Key} {v:V} (e:H a=some (.dT kvs)) (eb:H b=some (.tup (k.map kV))) (hl:kvs.length < sizeLine) :
  uJ H a (.ref b) v (upd H a (.dT (putK kvs k v))):=.inr ⟨kvs,k,b,e,rfl,eb,hl,rfl⟩
section
variable {X:Cx} {pins:List (Addr × Obj)} {σ:St} {H:Hp} {s:Shared} {a:Addr} {y v:V} {u r:Value} {o:Option V} {A:Around} {E:Value→Shared→Prop}
theorem Inv.big (I:Inv X pins σ H s):sysModules < s.heap.objs.size:=by
 have h:mainGlobals < s.heap.objs.size:=(I.mod.glob.keeps I.bk).lt
 exact Nat.lt_trans (by decide) h
theorem zm {Q:Value→Shared→Prop} (hu:A.units+1 < cLine) (I:Inv X pins σ H s) (g:nG H a y (some v)) (ry:RelV y u) (h:∀ w' s',Inv X pins σ H s'→RelV v w'→Q w' s') :
  wpAny (model X.prog X.w) A (getItem (.ref a) u) Q E s:=by
 rcases g with ⟨kvs,k,e,ey,l⟩ | ⟨kvs,k,b,e,ey,eb,l⟩
 ·subst ey
  obtain ⟨z,hd,vs,rel,dd⟩:=Fg I.hok e
  obtain ⟨w',hw,rw'⟩:=xq.some_of (v:=v) (o:=valueAt vs k) (by rw [l]; exact rel.val k)
  exact wpAny_getItem_of (BJ ry) dd.mapOf hw (h w' _ (I.tok _) rw')
 ·subst ey
  cases (show u=Value.ref b from ry)
  obtain ⟨z,hd,xs,rel,dd⟩:=G6 I.hok e
  obtain ⟨w',hw,rw'⟩:=xq.some_of (v:=v) (o:=(atKey xs k).map (·.2)) (by rw [l]; exact rel.val k)
  obtain ⟨p,hp,hp2⟩:=Option.map_eq_some_iff.mp hw
  refine wpAny_getItem_heap (tupleKind_room_in1 hu) (Ah I.hok eb) dd hp ?_
  rw [hp2]
  exact h w' _ (I.tok _) rw'
theorem qj {h':Heap} {t':Nat} {ob:HO} (I:Inv X pins σ H s) (mu:Mut (H a)) (hs:Heap.SameBut a s.heap h') (he:∃ q,h'.get? a=some q) (new:dZ X.prog X.w (upd H a ob) h' a ob) :
  Inv X pins σ (upd H a ob) { s with heap:=h',toks:=t' } :=
 I.write (x:=a) (e:=a) mu (.inl rfl) (fun b q hb z=>(hs.2 b hb).trans z) he new
theorem zU {P:Program} {w:World} {H':Hp} {h':Heap} {kvs:List (Key × V)} {vs:List (Key × Value)} (z:kvs.length≤sizeLine) (hd:(a == sysModules)=false) (rel:KV kvs vs) (dd:h'.DictOf (cR P w) a vs) :
  dZ P w H' h' a (.dK kvs):=⟨z,hd,vs,rel,dd⟩
theorem qY {H':Hp} {Q:Unit→Shared→Prop} (hu:A.units+1 < cLine) (I:Inv X pins σ H s) (g:uJ H a y v H') (ry:RelV y u) (rv:RelV v r) (h:∀ s',Inv X pins σ H' s'→Q () s') :
  wpAny (model X.prog X.w) A (setItem (.ref a) u r) Q E s:=by
 rcases g with ⟨kvs,k,e,ey,l,eH⟩ | ⟨kvs,k,b,e,ey,eb,l,eH⟩
 ·subst ey eH
  obtain ⟨z,hd,vs,rel,dd⟩:=Dh I.hok e
  have hz:vs.length≤sizeLine:=by rw [← rel.length]; exact z
  have hl:(putK kvs k v).length≤sizeLine:=by have:=gk kvs k v; omega
  refine wpAny_setItem_pairs (hsz:=hz) (BJ ry) dd fun h' dd' hs=>h _ ?_
  have he:∃ q,h'.get? a=some q:=let ⟨q,_,_,hq,_⟩:=dd'; ⟨q,hq⟩
  exact qj I (by rw [e]; exact True.intro) hs he (zU hl hd (rel.put k rv) dd')
 ·subst ey eH
  cases (show u=Value.ref b from ry)
  obtain ⟨z,hd,xs,rel,dd⟩:=Kr I.hok e
  have hz:xs.length≤sizeLine:=by rw [← Paired.length rel]; exact z
  have hl:(putK kvs k v).length≤sizeLine:=by have:=gk kvs k v; omega
  refine wpAny_setItem_heap (hsz:=hz) (tupleKind_room_in1 hu) (Ah I.hok eb) dd fun h' dd' hs=>h _ ?_
  obtain ⟨q,es,ep,hq,h2,h3,h4,_,h5⟩:=dd'
  refine qj I (by rw [e]; exact True.intro) hs ⟨q,hq⟩ ⟨hl,hd,_,(rel.put k eb rv).keeps fun c ys ec=>?_,q,es,ep,hq,h2,h3,h4,h5⟩
  rw [aG (su ec e (fun z=>nomatch z))]
  exact ec
end
section
variable {X:Cx} {pins:List (Addr × Obj)} {σ:St} {H:Hp} {s:Shared} {a:Addr} {kvs:List (Key × V)} {k:Key} {u:Value} {A:Around} {E:Value→Shared→Prop}
end
def K9 (i:Expr):Prop:=∀ ov iv,subscripted i false ov iv=operate [ov,iv] (getItem ov iv)
theorem z9 {prog:Program} {w:World} {A:Around} {E:Value→Shared→Prop} {s:Shared} {env:Env} {value slice:Expr} {pos:Pos} {T id:String} {Q:Value→Shared→Prop}
  (hl:typeLookup (.type T) "__getitem__" = pure (some (.builtin id))) (hs:K9 slice)
  (h:wpAny (model prog w) A (eval value env) (fun o s₁=>wpAny (model prog w) A (eval slice env) (fun i s₂=>s₂.TypeIs o T∧wpAny (model prog w) A (getItem o i) Q E s₂) E s₁) E s) :
  wpAny (model prog w) A (eval (.Subscript value slice pos) env) Q E s:=by
 refine Subscript_ (wpAny_mono h (fun o s₁ h₁=>wpAny_mono h₁ (fun i s₂ h₂=>?_) fun _ _ x=>x) fun _ _ x=>x)
 obtain ⟨hT,h₂⟩:=h₂
 unfold subscriptTail
 refine wpAny_bind ?_
 rw [getitemInPython_of_ne hT.not_modules]
 refine wpAny_bind (wpAny_specialOf hT hl ?_)
 have fin:wpAny (model prog w) A (subscripted slice false o i) (fun r s₃=>wpAny (model prog w) A (letTemporaryGo value o r >>= fun _=>pure r) Q E s₃) E s₂:=by
  rw [hs o i]
  exact wpAny_operating (wpAny_mono h₂ (fun r s₃ h₃=>wpAny_bind (wpAny_letTemporaryGo (wpAny_pure h₃))) fun _ _ x=>x)
 first
  | exact wpAny_pure (wpAny_bind fin)
  | exact wpAny_bind (wpAny_pure (wpAny_bind fin))
  | exact wpAny_bind fin
theorem sU {X:Cx} {pins:List (Addr × Obj)} {σ:St} {H:Hp} {s:Shared} {a:Addr} {y:V} {o:Option V} (I:Inv X pins σ H s) (g:nG H a y o):s.TypeIs (.ref a) "dict":=by
 rcases g with ⟨kvs,k,e,_,_⟩ | ⟨kvs,k,b,e,_,_,_⟩
 ·obtain ⟨_,_,vs,_,dd⟩:=Fg I.hok e
  exact dd.typeIs
 ·obtain ⟨_,_,xs,_,dd⟩:=G6 I.hok e
  exact dd.typeIs
def KR (td ty:TE):TE:=fun σ H Q=>td σ H fun x H1=>ty σ H1 fun y H2=>∃ a v,x=.ref a∧nG H2 a y (some v)∧Q v H2
def KQ (td ty tv:TE):TS:=fun D σ H=>tv σ H fun v H1=>td σ H1 fun x H2=>ty σ H2 fun y H3=>∃ a H4,x=.ref a∧uJ H3 a y v H4∧D.nx σ H4
section
variable {X:Cx} {o i e value:Expr} {pos pos' tpos:Pos} {td ty tv:TE}
theorem cX (hu:X.A.units+1 < cLine) (ho:PE X o td) (hi:PE X i ty) (hs:K9 i):PE X (.Subscript o i pos) (KR td ty):=by
 intro pins s σ H Q I h
 refine z9 PySem.F.slot_dict_getitem.lookup hs (thn (ho pins s σ H _ I h) fun u s1 ⟨x,H1,I1,rx,q1⟩=>thn (hi pins s1 σ H1 _ I1 q1) fun iv s2 ⟨y,H2,I2,ry,a,v,ex,g,q2⟩=>?_)
 subst ex
 obtain rfl:u=Value.ref a:=rx
 exact ⟨sU I2 g,zm hu I2 g ry fun w' s3 I3 rw'=>⟨v,H2,I3,rw',q2⟩⟩
theorem fK (hu:X.A.units+1 < cLine) (ho:PE X o td) (hi:PE X i ty) (hv:PE X value tv) (hs:swapsWith value (some (.Subscript o i pos')) pos.line X.env=pure false) :
  PS X (.Assign [.Subscript o i pos'] value pos) (KQ td ty tv):=by
 intro pins s σ H D I h
 refine wpAny_Assign_Subscript (thn (hv pins s σ H _ I h) fun r s1 ⟨v,H1,I1,rv,q1⟩=>thn (ho pins s1 σ H1 _ I1 q1) fun u s2 ⟨x,H2,I2,rx,q2⟩=>thn (hi pins s2 σ H2 _ I2 q2) fun iv s3 ⟨y,H3,I3,ry,a,H4,ex,g,q3⟩=>?_) hs
 subst ex
 obtain rfl:u=Value.ref a:=rx
 exact qY hu I3 g ry rv fun s4 I4=>⟨σ,H4,I4,q3⟩
end
theorem CK {P:Program} {w:World} {H:Hp} (h:Heap) (hb:sysModules < h.objs.size):dZ P w H (h.push { cls:=.type "dict",data:=.dict #[] }) h.objs.size (.dK []) :=
 ⟨Nat.zero_le _,beq_eq_false_iff_ne.mpr (Ne.symm (Nat.ne_of_lt hb)),[],.nil,Heap.DictOf.new h⟩
section
variable {X:Cx} {pos:Pos}
end
def z7:List (TE × TE)→St→Hp→(List (V × V)→Hp→Prop)→Prop
 | [],_,H,Q=>Q [] H
 | (tk,tv) :: r,σ,H,Q=>tk σ H fun x H1=>tv σ H1 fun y H2=>z7 r σ H2 fun ps H3=>Q ((x,y) :: ps) H3
abbrev VV:List (V × V)→List (Value × Value)→Prop:=Paired fun p q=>RelV p.1 q.1∧RelV p.2 q.2
def PPs (X:Cx) (pos:Pos) (keys:List (Option Expr)) (values:List Expr) (trs:List (TE × TE)):Prop :=
 ∀ (pins:List (Addr × Obj)) (s:Shared) (σ:St) (H:Hp) (Q:List (V × V)→Hp→Prop),Inv X pins σ H s→z7 trs σ H Q →
  wpAny (model X.prog X.w) X.A (evalPairs (pairTrees keys values X.env pos)) (fun vs s'=>∃ ps H',Inv X pins σ H' s'∧VV ps vs∧Q ps H') X.xe s
theorem uc {X:Cx} {pos:Pos}:PPs X pos [] [] []:=fun pins s σ H Q I h=>pairTrees_nil_walk ⟨[],H,I,.nil,h⟩
theorem cV {X:Cx} {pos:Pos} {k v:Expr} {ks:List (Option Expr)} {vs:List Expr} {tk tv:TE} {trs:List (TE × TE)} (hk:PE X k tk) (hv:PE X v tv) (hr:PPs X pos ks vs trs) :
  PPs X pos (some k :: ks) (v :: vs) ((tk,tv) :: trs):=fun pins s σ H Q I h =>
 pairTrees_cons_walk (thn (hk pins s σ H _ I h) fun u s1 ⟨x,H1,I1,rx,q1⟩=>thn (hv pins s1 σ H1 _ I1 q1) fun w2 s2 ⟨y,H2,I2,ry,q2⟩ =>
  thn (hr pins s2 σ H2 _ I2 q2) fun ws s3 ⟨ps,H3,I3,rel,q3⟩=>⟨(x,y) :: ps,H3,I3,.cons ⟨rx,ry⟩ rel,q3⟩)
def gJ (kvs more:List (Key × V)):List (Key × V):=more.foldl (fun acc kv=>putK acc kv.1 kv.2) kvs
theorem KV.merge:∀ {more:List (Key × V)} {rs:List (Key × Value)} {kvs:List (Key × V)} {vs:List (Key × Value)},KV more rs→KV kvs vs→KV (gJ kvs more) (merged vs rs):=by
 intro more rs kvs vs r
 unfold KV at r
 induction r generalizing kvs vs with
 | nil=>intro q; exact q
 | @cons p q ps qs h t ih =>
  intro r0
  have e:KV (putK kvs p.1 p.2) (stored vs q.1 q.2):=by
   have:=r0.put p.1 h.2
   rw [← h.1]; exact this
  exact ih e
theorem jG:∀ (more kvs:List (Key × V)),(gJ kvs more).length≤kvs.length+more.length
 | [],kvs=>by show kvs.length≤kvs.length+0; omega
 | p :: r,kvs=>by
  have h1:=jG r (putK kvs p.1 p.2)
  have h2:=gk kvs p.1 p.2
  show (gJ (putK kvs p.1 p.2) r).length≤_
  rw [List.length_cons]; omega
theorem n8 {P:Program} {w:World}:∀ {kvs:List (Key × V)} {ws:List (Value × Value)},VV (kvs.map fun kv=>(kV kv.1,kv.2)) ws→∃ rs,Carries (cR P w) ws rs∧KV kvs rs
 | [],_,r=>by rw [List.map_nil] at r; cases r; exact ⟨[],True.intro,.nil⟩
 | p :: kvs,_,r=>by
  rw [List.map_cons] at r
  cases r with
  | @cons a b as bs h t =>
   obtain ⟨rs,c,q⟩:=n8 (P:=P) (w:=w) t
   obtain ⟨b1,b2⟩:=b
   exact ⟨(p.1,b2) :: rs,⟨BJ h.1,rfl,c⟩,.cons ⟨rfl,h.2⟩ q⟩
def Kz (trs:List (TE × TE)):TE:=fun σ H Q=>∀ p,H p=none→z7 trs σ (upd H p (.dK [])) fun ps H2=>H2 p=some (.dK [])∧∃ kvs:List (Key × V),ps=kvs.map (fun kv=>(kV kv.1,kv.2))∧kvs.length≤15∧Q (.ref p) (upd H2 p (.dK (gJ [] kvs)))
theorem uH {X:Cx} {pos:Pos} {keys:List (Option Expr)} {values:List Expr} {trs:List (TE × TE)} (h:PPs X pos keys values trs) (hall:keys.all (·.isSome)=true) (hl:keys.length=values.length) (h0:keys≠[])
  (h15:keys.length≤15):PE X (.Dict keys values pos) (Kz trs):=by
 intro pins s σ H Q I q
 have hn:=I.hok.fresh (Nat.le_refl s.heap.objs.size)
 have I1:=I.laid (a:=s.heap.objs.size) (o:=.dK []) (h':=s.heap.push { cls:=.type "dict",data:=.dict #[] }) (t':=s.toks) (fun _ _ q=>Heap.get?_push_of_some _ q) (Nat.le_refl _) (CK s.heap I.big)
 refine wpAny_Dict_walk (knd:=cR X.prog X.w) hall hl h0 h15 (thn (h pins _ σ _ _ I1 (q _ hn)) fun ws s2 ⟨ps,H2,I2,rel,e,kvs,ep,lk,q2⟩=>?_)
 subst ep
 obtain ⟨rs,c,rk⟩:=n8 (P:=X.prog) (w:=X.w) rel
 obtain ⟨z,hd,vs0,r0,dd⟩:=Dh I2.hok e
 cases r0
 refine ⟨rs,c,dd,fun h' dd' hs=>⟨.ref s.heap.objs.size,_,?_,rfl,q2⟩⟩
 have hz:(gJ [] kvs).length≤sizeLine:=by
  have h1:=jG kvs []
  rw [List.length_nil] at h1
  rw [sizeLine_eq]; omega
 have he:∃ q,h'.get? s.heap.objs.size=some q:=let ⟨q,_,_,hq,_⟩:=dd'; ⟨q,hq⟩
 exact qj I2 (by rw [e]; exact True.intro) hs he (zU hz hd (rk.merge .nil) dd')
structure M1 (X:Cx) (o:Expr) (m:Str) (apos:Pos) (e:Expr) (cpos:Pos):Prop where
 base:attributeBase o m X.env (eval o X.env)=eval o X.env
 few:((backTo cpos (starEach [e] X.env)).all (fun x=>!x.1) && (backToKw cpos (keywordEach [] X.env)).all (fun x=>x.1.isSome)
  && decide (([e]:List Expr).length+([]:List Keyword).length+(if ([]:List Keyword).isEmpty then 0 else 1) < 30))=true
 line:(apos.endLine == cpos.line)=true
 trees:backTo cpos (starEach [e] X.env)=[(false,eval e X.env)]
structure M2 (X:Cx) (o:Expr) (m:Str) (apos:Pos) (e f:Expr) (cpos:Pos):Prop where
 base:attributeBase o m X.env (eval o X.env)=eval o X.env
 few:((backTo cpos (starEach [e,f] X.env)).all (fun x=>!x.1) && (backToKw cpos (keywordEach [] X.env)).all (fun x=>x.1.isSome)
  && decide (([e,f]:List Expr).length+([]:List Keyword).length+(if ([]:List Keyword).isEmpty then 0 else 1) < 30))=true
 line:(apos.endLine == cpos.line)=true
 trees:backTo cpos (starEach [e,f] X.env)=[(false,eval e X.env),(false,eval f X.env)]
section
variable {X:Cx} {pins:List (Addr × Obj)} {σ:St} {H:Hp} {s:Shared} {a:Addr} {y d:V} {u r:Value} {o:Option V} {A:Around} {E:Value→Shared→Prop}
end
section
variable {X:Cx} {o e f:Expr} {apos cpos:Pos} {td ty tx:TE}
end
section
variable {X:Cx} {pins:List (Addr × Obj)} {σ:St} {H:Hp} {s:Shared} {a:Addr} {kvs:List (Key × V)} {A:Around} {E:Value→Shared→Prop}
end
section
variable {X:Cx} {pins:List (Addr × Obj)} {σ:St} {H:Hp} {s:Shared} {a:Addr} {y:V} {u:Value} {A:Around} {E:Value→Shared→Prop}
end
end L2
namespace MD
open PySem
abbrev kwD (d:Value):List (Str × Value):=[(Str.ofString "default",d)]
section
variable {prog:Program} {w:World} {A:Around} {R:Result→Shared→Prop} {It:Addr} {fp wr:List Addr} {n:Nat} {Pr:Nat→Value→Prop} {Sx:Nat→Heap→Prop}
theorem nm:(toString "max" ++ toString ".loop" : String) = "max.loop":=by decide
theorem on (W:Walks prog w A.in1 It fp wr n Pr Sx) (bt:Nat→Nat→Bool) (cm:CmpOf prog w A.in1 .Gt Pr bt) (B:Addr) (nB:B ∉ fp) (d:Value) :
  ∀ (k j:Nat) (s:Shared) (best:Value) (c:Nat),n - (j+1)=k→j+1≤n→Sx (j+1) s.heap→Pr (argBest bt j) best →
  s.heap.get? B=some { cls:=.type "list",dict:=none,data:=.seq #[best,best] c,slots:=#[] } →
  (∀ v h' tk,Pr (argBest bt (n - 1)) v→(∀ b o,b ∉ wr→b≠B→s.heap.get? b=some o→h'.get? b=some o)→R (.ok (.ret v)) { s with heap:=h',toks:=tk }) →
  codeAny (model prog w) A (.builtin "max.loop" ⟨[.ref It,.none,.ref B],kwD d⟩) R s:=by
 have nW:B ∉ wr:=fun z=>nB (W.sub _ z)
 intro k
 induction k with
 | zero =>
  intro j s best c ek ej st pb eB fin
  have en:j+1=n:=by omega
  refine codeAny_builtin PySem.F.entry_max_loop ?_
  rw [Around.under_plainId (PySem.F.plain_max_loop) _]
  show wpAny _ A.in1 (seqItems? (.ref B) >>= _) _ _ s
  refine wpAny_bind (wpAny_seqItems eB rfl ?_)
  show wpAny _ A.in1 (tryCatch (pyNext (.ref It)) _ >>= _) _ _ s
  refine wpAny_bind (wpAny_tryCatch (W.done s _ _ (en ▸ st) fun h' tk kp=>?_))
  have eB':=kp B _ nW eB
  show wpAny _ A.in1 (updateSeq B (fun _=>#[]) >>= _) _ _ _
  refine wpAny_bind ?_
  refine wpAny_updateSeq eB' rfl (wpAny_bind (wpAny_letGo (wpAny_pure ?_)))
  exact fin best _ tk (by rw [← en]; exact pb) fun b o nb nS e=>(Heap.get?_update_other _ _ (Ne.symm nS)).trans (kp b o nb e)
 | succ k ih =>
  intro j s best c ek ej st pb eB fin
  have lt:j+1 < n:=by omega
  refine codeAny_builtin PySem.F.entry_max_loop ?_
  rw [Around.under_plainId (PySem.F.plain_max_loop) _]
  show wpAny _ A.in1 (seqItems? (.ref B) >>= _) _ _ s
  refine wpAny_bind (wpAny_seqItems eB rfl ?_)
  show wpAny _ A.in1 (tryCatch (pyNext (.ref It)) _ >>= _) _ _ s
  refine wpAny_bind (wpAny_tryCatch (W.item (j+1) s _ _ lt st fun v h' tk pv st' kp=>?_))
  have eB':=kp B _ nW eB
  show wpAny _ A.in1 (tryCatch (holding [v,v] (richCompare .Gt v best >>= _)) _ >>= _) _ _ _
  refine wpAny_bind (wpAny_tryCatch (wpAny_holding (wpAny_bind (cm (j+1) (argBest bt j) v best _ _ _ pv pb ?_))))
  refine wpAny_bind (wpAny_holding (wpAny_truthy_bool ?_))
  refine wpAny_bind (wpAny_letGo (wpAny_pure ?_))
  cases eb:bt (j+1) (argBest bt j) with
  | true =>
   rw [if_pos rfl]
   refine wpAny_bind ?_
   refine wpAny_updateSeq eB' rfl (wpAny_bind (wpAny_letGo ?_))
   rw [nm]
   refine wpAny_pure ⟨plainId_quiet PySem.F.plain_max_loop _,ih (j+1) _ v _ (by omega) lt (W.frame _ _ _ st' fun b bf o e=>?_) (by simp only [argBest,eb,if_true]; exact pv) (Heap.get?_update_self _ eB' rfl) fun v' h2 tk2 pv' kp2=>?_⟩
   ·exact (Heap.get?_update_other _ _ (fun z:B=b=>nB (by rw [z]; exact bf))).trans e
   ·exact fin v' h2 tk2 pv' fun b o nb nS e=>kp2 b o nb nS ((Heap.get?_update_other _ _ (Ne.symm nS)).trans (kp b o nb e))
  | false =>
   rw [if_neg Bool.false_ne_true]
   refine wpAny_bind (wpAny_letGo ?_)
   rw [nm]
   refine wpAny_pure ⟨plainId_quiet PySem.F.plain_max_loop _,ih (j+1) _ best c (by omega) lt st' (by simp only [argBest,eb,Bool.false_eq_true,if_false]; exact pb) eB' fun v' h2 tk2 pv' kp2=>?_⟩
   exact fin v' h2 tk2 pv' fun b o nb nS e=>kp2 b o nb nS (kp b o nb e)
end
section
variable {prog:Program} {w:World} {A:Around} {E:Value→Shared→Prop} {s:Shared}
end
end MD
namespace MQ
open PySem
end MQ
namespace DP
open PySem
section
variable {prog:Program} {w:World} {K:Type} [DecidableEq K] {knd:KeyKind prog w K} {A:Around} {R:Result→Shared→Prop} {It:Addr} {fp wr:List Addr} {n:Nat} {Pr:Nat→Value→Prop} {Sx:Nat→Heap→Prop}
end
end DP
namespace DP
open PySem
section
variable {prog:Program} {w:World} {K:Type} [DecidableEq K] {knd:KeyKind prog w K} {A:Around} {E:Value→Shared→Prop} {s:Shared}
end
end DP
namespace L2
open PySem PySem.Spec PyProof.Rows
end L2
namespace L2
open PySem PySem.Spec PyProof.Rows
end L2
namespace M08
def lng (t:List Nat):List (List Nat)→Nat
 | []=>0
 | c :: cs=>max (if c.isPrefixOf t=true then c.length else 0) (lng t cs)
def ended (ms ks:List (List Nat)) (t:List Nat):Nat:=if lng t ks=0 then lng t ms else 0
end M08
namespace SLi
open PySem
theorem clip (a b n:Nat):Builtin.Str.strSliceIndices (some (a:Int)) (some (b:Int)) 1 n=Builtin.Str.strSliceIndices (some ((min a n:Nat):Int)) (some ((min b n:Nat):Int)) 1 n:=by
 have e1:¬ ((a:Int) < 0):=by omega
 have e2:¬ ((b:Int) < 0):=by omega
 have e3:¬ (((min a n:Nat):Int) < 0):=by omega
 have e4:¬ (((min b n:Nat):Int) < 0):=by omega
 have h1:max (0:Int) (min (a:Int) (n:Int))=max 0 (min ((min a n:Nat):Int) (n:Int)):=by omega
 have h2:max (0:Int) (min (b:Int) (n:Int))=max 0 (min ((min b n:Nat):Int) (n:Int)):=by omega
 simp only [Builtin.Str.strSliceIndices,e1,e2,e3,e4,if_false,h1,h2]
 rfl
theorem both (x:Str) {a b:Nat} (h:a≤b):Txt.slice x (some (a:Int)) (some (b:Int))=⟨((x.cps.toList.drop a).take (b - a)).toArray⟩:=by
 have hl:x.cps.toList.length=x.length:=by simp [Str.length]
 have e:Txt.slice x (some (a:Int)) (some (b:Int))=Txt.slice x (some ((min a x.length:Nat):Int)) (some ((min b x.length:Nat):Int)):=by
  unfold Txt.slice
  rw [clip]
 rw [e]
 have p:=StrLaws.sliceText_plain (x:=x) (i:=((min a x.length:Nat):Int)) (j:=((min b x.length:Nat):Int)) ⟨by omega,by omega,by omega⟩
 have p':Txt.slice x (some ((min a x.length:Nat):Int)) (some ((min b x.length:Nat):Int))=_:=p
 rw [p']
 congr 1
 have e1:(((min a x.length:Nat):Int)).toNat=min a x.length:=by omega
 have e2:(((min b x.length:Nat):Int) - ((min a x.length:Nat):Int)).toNat=min b x.length - min a x.length:=by omega
 rw [e1,e2]
 congr 1
 by_cases ha:a≤x.length
 ·rw [Nat.min_eq_left ha]
  by_cases hb:b≤x.length
  ·rw [Nat.min_eq_left hb]
  ·rw [Nat.min_eq_right (by omega)]
   rw [List.take_of_length_le (by rw [List.length_drop]; omega),List.take_of_length_le (by rw [List.length_drop]; omega)]
 ·rw [Nat.min_eq_right (by omega),List.drop_eq_nil_of_le (by omega),List.drop_eq_nil_of_le (by omega)]
  simp
theorem upto (x:Str) (b:Nat):Txt.slice x none (some (b:Int))=⟨(x.cps.toList.take b).toArray⟩:=by
 have e:Txt.slice x none (some (b:Int))=Txt.slice x (some ((0:Nat):Int)) (some (b:Int)):=by
  unfold Txt.slice
  rw [StrLaws.sliceIdx_none_lo]
  rfl
 rw [e,both x (Nat.zero_le b)]
 simp
theorem from_ (x:Str) (a:Nat):Txt.slice x (some (a:Int)) none=⟨(x.cps.toList.drop a).toArray⟩:=by
 have hl:x.cps.toList.length=x.length:=by simp [Str.length]
 have e:Txt.slice x (some (a:Int)) none=Txt.slice x (some (a:Int)) (some (x.length:Int)):=by
  unfold Txt.slice
  rw [StrLaws.sliceIdx_none_hi]
 rw [e]
 by_cases h:a≤x.length
 ·rw [both x h,List.take_of_length_le (by rw [List.length_drop]; omega)]
 ·have e2:Txt.slice x (some (a:Int)) (some (x.length:Int))=Txt.slice x (some ((x.length:Nat):Int)) (some (x.length:Int)):=by
   unfold Txt.slice
   rw [clip,clip x.length x.length]
   rw [Nat.min_eq_right (by omega:x.length≤a),Nat.min_self]
  rw [e2,both x (Nat.le_refl _),List.drop_eq_nil_of_le (by omega:x.cps.toList.length≤a),Nat.sub_self]
  simp
end SLi
namespace L2
open PySem PySem.Spec PyProof.Rows M08
abbrev mkT (r:List Nat):V:=V.str ⟨r.toArray⟩
abbrev sD (r:List Nat):D:=.str ⟨r.toArray⟩
structure OkC (cs:List (List Nat)):Prop where
 few:cs.length≤100
 size:∀ c∈cs,1≤c.length∧c.length≤8
theorem aR {α:Type} (x:α) (xs:List α):atI (x :: xs) 0=some x:=aJ (xs:=x :: xs) (j:=0) rfl
end L2
namespace L2
open PySem PySem.Spec PyProof.Rows M08
end L2
namespace M08
end M08
namespace M05
def nmN:Nat→Nat→List Nat
 | 0,_=>[]
 | f+1,r=>if r=0 then [] else nmN f ((r - 1) / 26)++[97+(r - 1) % 26]
def nm (r:Nat):List Nat:=nmN r r
def sh:Nat→Nat
 | 0=>0
 | s+1=>26 * sh s+(if s=0 then 0 else 26)
end M05
namespace M05
end M05
namespace L2
open PySem PySem.Spec PyProof.Rows
def KJ:R2:=fun x y H Q=>∃ (a b:Addr) (xs ys:List V),x=.ref a∧y=.ref b∧H a=some (.tup xs)∧H b=some (.tup ys)∧xs.length+ys.length≤sizeLine∧∀ (q:Addr) (H':Hp),Same H H'→H' q=some (.tup (xs++ys))→Q (.ref q) H'
theorem gq {X:Cx}:OpR X (binaryOp .Add) KJ:=by
 intro pins s σ H x y v u Q I rx ry h
 obtain ⟨a,b,xs,ys,rfl,rfl,ha,hb,hz,q⟩:=h
 cases xs with
 | cons x1 xs =>
  refine zK pins s σ H (.ref a) (.ref b) v u Q I rx ry ⟨a,b,_,_,rfl,rfl,SqT.of ha,SqT.of hb,by simp,hz,fun z=>?_,fun z p hp=>q p _ (aq hp _) ak⟩
  refine q a H (Same.refl H) ?_
  rw [ha,z,List.append_nil]
 | nil =>
  cases rx
  cases ry
  obtain ⟨its,r1,p1,_⟩:=I.tuple (SqT.of (K:=X.K) ha)
  obtain ⟨its2,r2,p2,_⟩:=I.tuple (SqT.of (K:=X.K) hb)
  cases r1
  obtain ⟨⟨cls,dd,data,sl⟩,ho,hc,n,hd⟩:=id p1
  obtain ⟨⟨cls2,dd2,data2,sl2⟩,ho2,hc2,n2,hd2⟩:=id p2
  simp only at hc hd hc2 hd2
  subst hc hd hc2 hd2
  refine concat_meets ⟨_,ho,rfl⟩ ⟨_,ho2,rfl⟩ noFill_tuple_add seq_tuple_add PySem.F.slot_tuple_add PySem.F.entry_tuple_add (PySem.F.args_tuple_add_2 _ _) (tuple_addW0 a b _ its2.toArray n n2 dd dd2 sl sl2 rfl) ⟨ho,ho2,?_⟩
  exact ⟨.ref b,H,I,rfl,q b H (Same.refl H) hb⟩
theorem xV (a:Str):∀ xs:List Str,inV (.str a) (xs.map V.str)=decide (a∈xs)
 | []=>rfl
 | x :: xs=>by
  have ih:=xV a xs
  unfold inV at ih ⊢
  rw [List.map_cons,List.any_cons,ih]
  show (x == a || decide (a∈xs))=_
  rw [Bool.eq_iff_iff,Bool.or_eq_true,decide_eq_true_eq,decide_eq_true_eq,List.mem_cons,beq_iff_eq]
  constructor
  ·rintro (h | h)
   ·exact .inl h.symm
   ·exact .inr h
  ·rintro (h | h)
   ·exact .inl h.symm
   ·exact .inr h
end L2
namespace ET
open PySem
open Sem (wp)
open AutoSeq1 (wpAny_loadPart')
end ET
namespace L2
open PySem PySem.Spec PyProof.Rows
theorem jW {prog:Program} {w:World} {A:Around} {E:Value→Shared→Prop} {s:Shared} {t sl:Addr} {items:Array Value} {vl vu:Value} {lo hi:Option Int} {Q:Value→Shared→Prop} (ht:IsTup s.heap t items) (hs:s.heap.IsSliceOf sl vl vu .none) (pl:IsPart vl lo) (pu:IsPart vu hi)
  (hw:HT.sIx items.size 0 lo=0∧HT.sIx items.size items.size hi=items.size) (h:Q (.ref t) s):wpAny (model prog w) A (getItem (.ref t) (.ref sl)) Q E s:=by
 obtain ⟨os,hos,hcs,hds⟩:=id hs
 have hTs:s.TypeIs (.ref sl) "slice":=⟨os,hos,hcs⟩
 unfold getItem
 try with_reducible refine wpAny_holding ?_
 first | refine wpAny_bind (wpAny_pure ?_) | skip
 refine wpAny_bind (wpAny_sequenceKey ht.typeIs (by decide) ?_)
 refine wpAny_bind (wpAny_callSpecial?_slot (name:=Str.ofString "__getitem__") ht.typeIs PyProof.Rows.slot_tuple_getitem
  (wpAny_call_entry PyProof.Rows.slot_tuple_getitem ht.typeIs PyProof.Rows.entry_tuple_getitem ?_ (PyProof.Rows.args_tuple_getitem _ _)))
 show wpAny _ _ (Builtin.Tuple.tupleItemsOf (.ref t) >>= _) _ _ s
 refine wpAny_bind (PyProof.Rows.tupleItemsOf_ ht ?_)
 refine wpAny_bind (wpAny_typeOf hTs ?_)
 rw [if_pos (by decide)]
 refine wpAny_bind (HT.gG hs pl pu ?_)
 have hno:(((HT.sIx items.size 0 lo:Nat):Int) == 0 && (1:Int) == 1 && (HT.sIx items.size items.size hi - HT.sIx items.size 0 lo) == items.size)=true:=by
  rw [hw.1,hw.2]
  simp
 show wpAny _ _ (if (((HT.sIx items.size 0 lo:Nat):Int) == 0 && (1:Int) == 1 && (HT.sIx items.size items.size hi - HT.sIx items.size 0 lo) == items.size)=true then _ else _) _ _ s
 rw [if_pos hno]
 refine wpAny_bind (m:=Builtin.Tuple.tupleIsExact _) (wpAny_bind (wpAny_typeOf ht.typeIs (wpAny_pure ?_)))
 rw [if_pos (by decide)]
 exact wpAny_bind (wpAny_rule (wpAny_pure ⟨_,rfl,wpAny_pure h⟩))
def Ky (K:PySem.W.Frag):V→Option Int→Option Int→Hp→VK→Prop:=fun x lo hi H Q=>∃ a xs,x=.ref a∧H a=some (.tup xs)∧∀ (p:Addr) (H':Hp),Same H H'→H' p=some (.tup (uP xs lo hi))→Q (.ref p) H'
theorem pQ {X:Cx}:SlR X (Ky X.K):=by
 intro pins s σ H x v vl vu lo hi sl Q I rx hs pl pu h
 obtain ⟨a,xs,rfl,hx,q⟩:=h
 by_cases hw:HT.sIx xs.length 0 lo=0∧HT.sIx xs.length xs.length hi=xs.length
 ·cases rx
  obtain ⟨its,r,ht,hz⟩:=I.tuple (SqT.of hx)
  have hlen:its.toArray.size=xs.length:=by rw [List.size_toArray]; exact r.length.symm
  refine ⟨"tuple",_,PyProof.Rows.slot_tuple_getitem.lookup,ht.typeIs,?_⟩
  refine jW ht hs pl pu (by rw [hlen]; exact hw) ⟨.ref a,H,I,rfl,q a H (Same.refl H) ?_⟩
  rw [hx]
  unfold uP
  rw [hw.1,hw.2,List.drop_zero,Nat.sub_zero,List.take_length]
 ·exact HS pins s σ H _ v vl vu lo hi sl Q I rx hs pl pu ⟨a,xs,rfl,SqT.of hx,hw,fun p hp=>q p _ (aq hp _) ak⟩
end L2
namespace L2
open PySem PySem.Spec PyProof.Rows
def N8:R2:=fun x y H Q=>∃ (l b:Addr) (xs:List V),x=.ref l∧y=.ref b∧H l=some (.lst xs)∧H b=some (.lst [])∧Q (.bl (!xs.isEmpty)) H
theorem Ka {X:Cx} (hu:X.A.units < cLine):OpR X (compareOp .NotEq) N8:=by
 intro pins s σ H x y v u Q I rx ry h
 obtain ⟨l,b,xs,rfl,rfl,hl,hb,q⟩:=h
 cases rx
 cases ry
 obtain ⟨its,r1,p1,_⟩:=I.list (SqL.of (K:=X.K) hl)
 obtain ⟨its2,r2,p2,_⟩:=I.list (SqL.of (K:=X.K) hb)
 cases r2
 cases r1 with
 | nil=>exact SeqAt.RcNeAt.lists (e:=fun _=>true) p1.isList p2.isList rfl hu (fun j h1 _=>absurd h1 (Nat.not_lt_zero j)) X.prog X.w _ _ ⟨.bl false,H,I,rfl,q⟩
 | cons _ _=>exact SeqAt.RcNeAt.lists_lengths p1.isList p2.isList (by simp) hu X.prog X.w _ _ ⟨.bl true,H,I,rfl,q⟩
end L2
namespace DR
open PySem PySem.W
open Sem (wp)
def Raw (g:Heap) (d:Addr) (es:Array DictEntry) (ep:Nat):Prop:=∃ o,g.get? d=some o∧o.ExactDict∧o.data=.dict es ep
section
variable {prog:Program} {w:World} {A:Around} {E:Value→Shared→Prop} {s:Shared} {it dd:Addr} {es:Array DictEntry} {i ep:Nat}
theorem Raw.typeIs (r:Raw s.heap dd es ep):s.TypeIs (.ref dd) "dict":=by
 obtain ⟨o,eo,ec,ed⟩:=r
 exact ⟨o,eo,ec.1⟩
end
end DR
namespace L2
open PySem PySem.Spec PyProof.Rows
end L2
namespace L2
open PySem PySem.Spec PyProof.Rows
end L2
namespace L2
open PySem PySem.Spec PyProof.Rows
theorem yJ {X:Cx} {pins:List (Addr × Obj)} {σ:St} {H:Hp} {s:Shared} (I:Inv X pins σ H s):∀ (n:Nat) (d:D) (A:Around) (x y:V) (v u:Value),fH n d→Den H x d→Den H y d→RelV x v→RelV y u→A.units+n < cLine→SeqAt.EqAt A s v u true
 | _,.non,A,x,y,v,u,hs,hx,hy,rx,ry,hu=>absurd rfl hs.ne
 | _,.bl b,A,x,y,v,u,hs,hx,hy,rx,ry,hu=>by
  have e1:x=.bl b:=hx
  have e2:y=.bl b:=hy
  subst e1
  subst e2
  cases rx
  cases ry
  exact SeqAt.EqAt.same _
 | _,.int i,A,x,y,v,u,hs,hx,hy,rx,ry,hu=>by
  have e1:x=.int i:=hx
  have e2:y=.int i:=hy
  subst e1
  subst e2
  obtain ⟨t,rfl⟩:=rx
  obtain ⟨t',rfl⟩:=ry
  have:=SeqAt.EqAt.int_int (A:=A) (s:=s) i t i t'
  simpa using this
 | _,.str z,A,x,y,v,u,hs,hx,hy,rx,ry,hu=>by
  have e1:x=.str z:=hx
  have e2:y=.str z:=hy
  subst e1
  subst e2
  obtain ⟨t,rfl⟩:=rx
  obtain ⟨t',rfl⟩:=ry
  have:=SeqAt.EqAt.str_str (A:=A) (s:=s) z t z t'
  simpa using this
 | 0,.tup ds,A,x,y,v,u,hs,hx,hy,rx,ry,hu=>absurd rfl (hs.2 ds)
 | n+1,.tup ds,A,x,y,v,u,hs,hx,hy,rx,ry,hu=>by
  obtain ⟨a,vs,rfl,ha,hda⟩:=aQ hx
  obtain ⟨b,us,rfl,hb,hdb⟩:=aQ hy
  cases rx
  cases ry
  by_cases hab:a=b
  ·subst hab
   exact SeqAt.EqAt.same _
  ·obtain ⟨its,r1,p1,_⟩:=I.tuple (SqT.of (K:=X.K) ha)
   obtain ⟨its2,r2,p2,_⟩:=I.tuple (SqT.of (K:=X.K) hb)
   have l1:=hda.len
   have l2:=hdb.len
   have m1:=r1.length
   have m2:=r2.length
   have key:=SeqAt.EqAt.of_refs hab (SeqAt.RcAt.tuples (A:=A) (s:=s) (e:=fun _=>true) p1 p2 (by omega) fun j h1 h2=>?_)
   ·have e:((List.range (min its.toArray.size its2.toArray.size)).all (fun _=>true) && its.toArray.size == its2.toArray.size)=true:=by
     simp
     omega
    rw [e] at key
    exact key
   ·have hj1:j < vs.length:=by simpa [m1] using h1
    have hj2:j < us.length:=by simpa [m2] using h2
    obtain ⟨d1,g1,b1⟩:=hda.at_ (List.getElem?_eq_getElem hj1)
    obtain ⟨d2,g2,b2⟩:=hdb.at_ (List.getElem?_eq_getElem hj2)
    rw [g1] at g2
    cases g2
    obtain ⟨w1,hw1,rw1⟩:=r1.get (List.getElem?_eq_getElem hj1)
    obtain ⟨w2,hw2,rw2⟩:=r2.get (List.getElem?_eq_getElem hj2)
    have q1:its.toArray[j]=w1:=by
     have:=(List.getElem?_eq_some_iff.mp hw1).2
     simpa using this
    have q2:its2.toArray[j]=w2:=by
     have:=(List.getElem?_eq_some_iff.mp hw2).2
     simpa using this
    rw [q1,q2]
    exact yJ I n d1 A.in1 _ _ _ _ ((hs.2 ds rfl).2 d1 (List.mem_of_getElem? g1)) b1 b2 rw1 rw2 (by first | (simp only [Around.in1]; omega) | omega)
end L2
namespace ZZ
open PySem
open Sem (wp)
section
variable {prog:Program} {w:World} {A:Around} {E:Value→Shared→Prop} {s:Shared}
end
end ZZ
namespace L2
open PySem PySem.Spec PyProof.Rows
end L2
namespace L2
open PySem PySem.Spec PyProof.Rows
end L2
namespace L2
open PySem PySem.Spec PyProof.Rows
theorem CN {X:Cx} {ix:Nat} {xn:Str} {pos' spos:Pos} {elt tg iter:Expr} {ifs:List Expr} {scope:Scope} {pos:Pos} {wi:TI} {g:TG} {tc:TT} {te:TE} (hN:X.N.Nodup) (hix:X.N[ix]?=some xn) (hxl:X.env.scope.names.lookup xn=some .local) (N:List Str) (lift:St→St) (hc:X.calm=true) (hi:PI X tg iter wi)
  (hkind:scope.kind=.function) (hcell:∀ y∈scope.names,y.2≠.cell) (hfree:∀ y∈scope.names,y.2=.free→X.env.kindOf y.1=some .cell∨X.env.kindOf y.1=some .free)
  (hnames:∀ y∈scope.names,y.2=.local→scope.names.lookup y.1=some .local)
  (hlen:∀ σ:St,σ.length=X.N.length→(lift σ).length=N.length)
  (hσ:∀ (σ:St) (i:Nat) (x:Str) (v:V),σ.length=X.N.length→N[i]?=some x→(lift σ)[i]?=some (some v)→scope.names.lookup x=some .free∧∃ j:Nat,X.N[j]?=some x∧σ[j]?=some (some v))
  (hg:∀ cl C s H ex pn E,PG (bJ X scope N cl C s H ex pn E) tg g) (ht:∀ cl C s H ex pn E,Ei (bJ X scope N cl C s H ex pn E) ifs tc) (he:∀ cl C s H ex pn E,PE (bJ X scope N cl C s H ex pn E) elt te)
  (hs:∀ x,foldedSetIterable iter X.env x=pure x) (hsw:swapsWith (.ListComp elt [⟨tg,iter,ifs,0⟩] scope pos) (some (.Name xn pos')) spos.line X.env=pure true) :
  PS X (.Assign [.Name xn pos'] (.ListComp elt [⟨tg,iter,ifs,0⟩] scope pos) spos) (JD (wg wi g tc te lift) (qU ix)):=by
 intro pins s σ H D I h
 rw [exec_Assign_Name_used _ _ _ _ hsw]
 refine wpAny_bind (wpAny_standAt (wpAny_bind ?_))
 suffices key:wpAny (model X.prog X.w) X.A (comprehension (.ListComp elt [⟨tg,iter,ifs,0⟩] scope pos) scope X.env (firstIterPos [⟨tg,iter,ifs,0⟩] pos) (newList []) (firstAsync [⟨tg,iter,ifs,0⟩]) (firstIter [⟨tg,iter,ifs,0⟩] X.env) (some (assign (.Name xn pos') X.env))) (fun _ s''=>∃ σ' H',Inv X pins σ' H' s''∧D.nx σ' H') X.xe s by
  show wpAny _ _ (comprehension _ _ _ _ _ _ _ _ >>= fun _=>pure ()) _ _ _
  exact wpAny_bind (thn key fun _ s' q=>wpAny_pure (wpAny_pure q))
 obtain ⟨cl,hclos,hcl1,hcl2⟩:=jY (scope:=scope) (env:=X.env) fun y hy hf=>I.ok.has y.1 (hfree y hy hf)
 refine wpAny_comprehension_free (use:=some (assign (.Name xn pos') X.env)) rfl hs hclos hkind hnames (thn (hi pins s σ H _ I h) fun v s1 h1=>thn h1 fun itv s2 h2=>?_)
 obtain ⟨it,fp,tn,J,H2,e,I2,T,st2,f2,q⟩:=h2
 subst e
 refine wpAny_newObj_type (wpAny_newFunctionEnv hcell (by intro y hy; simp at hy) (fun h₁ hns₁ hsb₁=>?_) hkind)
 have I3:Inv X pins σ (upd H2 s2.heap.objs.size (.lst [])) { s2 with heap:=s2.heap.push { cls:=.type "list",data:=.seq ([]:List Value).toArray } }:=I2.lnew (its:=[]) (t':=s2.toks) .nil (Nat.zero_le _)
 have fr:H2 s2.heap.objs.size=none:=I2.fresh
 have hold:∀ b o,(s2.heap.push { cls:=.type "list",data:=.seq ([]:List Value).toArray }).get? b=some o→h₁.get? b=some o:=fun b o e=>hsb₁.extBut b o (Nat.ne_of_lt (Heap.lt_size e)) (Heap.get?_push_of_some _ e)
 have f3:∀ b∈fp,wC X pins (upd H2 s2.heap.objs.size (.lst [])) b:=fun b hb=>by
  obtain ⟨o,eo,_⟩:=T.obj 0 _ st2 b hb
  exact ⟨by rw [aG (Nat.ne_of_lt (Heap.lt_size eo))]; exact (f2 b hb).1,(f2 b hb).2⟩
 have fo:∀ b∈fp,∃ o,(s2.heap.push { cls:=.type "list",data:=.seq ([]:List Value).toArray }).get? b=some o:=fun b hb=>by
  obtain ⟨o,eo,_⟩:=T.obj 0 _ st2 b hb
  exact ⟨o,Heap.get?_push_of_some _ eo⟩
 generalize hP:s2.heap.push { cls:=.type "list",data:=.seq ([]:List Value).toArray }=P at *
 obtain ⟨W,⟨m0,w0⟩,turn⟩:=q s2.heap.objs.size fr
 generalize hL:s2.heap.objs.size=L at *
 let R:Result→Shared→Prop:=compPost (model X.prog X.w) X.A X.xe (some (assign (.Name xn pos') X.env)) (fun _ s''=>∃ σ' H',Inv X pins σ' H' s''∧D.nx σ' H') (.ref L) P.objs.size
 let Y:Cx:=bJ X scope N cl P.objs.size { s2 with heap:=P } (upd H2 L (.lst [])) fp (X.pn++pins) (notedBy (model X.prog X.w) X.A (compEnvC scope cl P.objs.size X.env) fun e s'=>R (.error e) s')
 have IY:Inv Y [] (lift σ) (upd H2 L (.lst [])) { s2 with heap:=h₁,toks:=s2.toks+([]:List (Str × Value)).length } :=
  pC (s:={ s2 with heap:=P }) I3 hkind hcell hfree hcl1 hcl2 f3 fo (hlen σ I.len) (fun i x v=>hσ σ i x v I.len) hns₁ hold
 have stY:tn 0 h₁:=T.keep _ _ _ st2 fun b hb o e=>hold b o (by rw [← hP]; exact Heap.get?_push_of_some _ e)
 have fC:∀ b∈fp,b≠P.objs.size∧(b∈fp):=fun b hb=>by
  obtain ⟨o,eo⟩:=fo b hb
  exact ⟨Nat.ne_of_lt (Heap.lt_size eo),hb⟩
 have fpY:∀ {H':Hp},(∀ b∈fp,H' b=none)→∀ b∈fp,wC Y [] H' b:=fun {H'} hn b hb=>by
  refine ⟨hn b hb,(fC b hb).1,fun z=>?_,.inl hb,fun x c ex=>(f3 b hb).2.2.2.2.1 x c (hcl2 _ _ ex),fun p hp=>?_⟩
  ·rcases List.mem_cons.mp (I3.stkSub b z) with y | y
   ·exact (f3 b hb).2.1 y
   ·exact (f3 b hb).2.2.1 y
  ·have hp':p∈(X.pn++pins)++[]:=hp
   rw [List.append_nil] at hp'
   exact (f3 b hb).2.2.2.2.2 p hp'
 have loop:∀ s4:Shared,s4={ s2 with heap:=h₁,toks:=s2.toks+([]:List (Str × Value)).length } →
   codeAny (model X.prog X.w) X.A (.compLoop (.ListComp elt [⟨tg,iter,ifs,0⟩] scope pos) 0 (.ref it) (.ref L) (compEnvC scope cl P.objs.size X.env)) R s4:=by
  rintro s4 rfl
  refine cU (fun n s'=>∃ i σ' H',Inv Y [] σ' H' s'∧tn i s'.heap∧(∀ b∈fp,H' b=none)∧W i n σ' H') ?_ m0 ⟨0,_,_,IY,stY,fun b hb=>(f3 b hb).1,w0⟩
  rintro n s5 ⟨i,σ5,H5,I5,st5,fr5,w5⟩
  rcases turn i n σ5 H5 w5 with ⟨stop,qn⟩ | ⟨go,Nx,hNx,step⟩
  ·refine thn (T.done Y rfl rfl rfl hc i [] s5 σ5 H5 Y.xe I5 (fpY fr5) st5 stop) fun r s6 ⟨hr,I6⟩=>?_
   subst hr
   show R (.ok .next) s6
   obtain ⟨m6,hn6,_⟩:=id I6.loc
   have IX:Inv X pins σ H5 s6:=I3.call' (s':=s6) (ch:=fp) I6.os I6.base I6.hok I6.bare fun b hb=>⟨(f3 b hb).2.2.2.1,(f3 b hb).2.1,(f3 b hb).2.2.2.2.1,(f3 b hb).2.2.2.2.2⟩
   have nC:∀ x c,X.env.cells.lookup x=some c→c≠P.objs.size:=fun x c ec z=>by
    obtain ⟨v0,qv⟩:=I3.cell x c ec
    exact absurd qv.lt (by rw [z]; exact Nat.lt_irrefl _)
   have nP:∀ p∈X.pn++pins,p.1≠P.objs.size:=fun p hp z=>by
    have z0:=Heap.lt_size (I3.pin p hp).1
    exact absurd z0 (by rw [z]; exact Nat.lt_irrefl _)
   show wpAny _ _ (assign (.Name xn pos') X.env (.ref L)) _ _ _
   refine wpAny_assign_Name (qZ IX hN hix (.inl hxl) (v:=.ref L) rfl (fun s7 I7 hsb=>?_) (.inr hxl))
   obtain ⟨a7,sb7,ha7⟩:=hsb
   have na7:P.objs.size≠a7:=by
    rcases ha7 with z | z
    ·rw [z]
     exact Nat.ne_of_gt I3.lt
    ·exact (nC _ _ z).symm
   refine ⟨m6,hn6.at' fun o e=>(sb7.2 _ na7).trans e,fun h' sb=>⟨_,H5,I7.turned (t':=s7.toks) (it:=P.objs.size) (fun b o hb e=>(sb.2 b hb).trans e) I6.free (Nat.ne_of_gt I3.lt) (.inr I3.sz) nC nP,qn⟩⟩
  ·refine thn (T.item Y rfl rfl rfl hc i [] s5 σ5 H5 Y.xe I5 (fpY fr5) st5 go) fun r s6 ⟨u,hr,h6⟩=>?_
   subst hr
   refine thn h6 fun _ s7 ⟨x,H7,I7,r7,y7,st7,fr7⟩=>?_
   have I7':=I7.pinned (fpY fr7) (T.obj _ _ st7)
   refine thn (hg _ _ _ _ _ _ _ _ s7 σ5 H7 x u _ I7' r7 (step x H7 y7)) fun _ s8 ⟨σ8,H8,I8,q8⟩=>?_
   refine thn (ht _ _ _ _ _ _ _ _ s8 σ8 H8 _ I8 q8) fun ok s9 ⟨H9,I9,q9⟩=>?_
   have again:∀ {sx:Shared} {Hx:Hp},Inv Y ([]++mF fp s7.heap) σ8 Hx sx→Nx σ8 Hx→∃ m,m < n∧∃ i σ' H',Inv Y [] σ' H' sx∧tn i sx.heap∧(∀ b∈fp,H' b=none)∧W i m σ' H':=fun {sx Hx} Ix nx=>by
    obtain ⟨m',hm,wx⟩:=hNx σ8 Hx nx
    refine ⟨m',hm,i+1,σ8,Hx,Ix.unpinned,T.keep _ _ _ st7 fun b hb o e=>(Ix.pin (b,o) (List.mem_append_right _ (List.mem_append_right _ (cW hb e)))).1,fun b hb=>?_,wx⟩
    obtain ⟨o,e,d⟩:=T.obj _ _ st7 b hb
    exact (Ix.pin (b,o) (List.mem_append_right _ (List.mem_append_right _ (cW hb e)))).2.1
   cases ok with
   | false =>
    rw [if_neg Bool.false_ne_true] at q9 ⊢
    exact again I9 q9
   | true =>
    rw [if_pos rfl] at q9 ⊢
    refine thn (he _ _ _ _ _ _ _ _ s9 σ8 H9 _ I9 q9) fun y s10 ⟨v10,H10,I10,r10,ys,hys,hz,q10⟩=>?_
    refine thn (cG (X:=Y) _ s10 σ8 H10 (.ref L) [v10] (.ref L) [y] (fun _ H'=>Nx σ8 H') I10 rfl (.cons r10 .nil) ⟨L,ys,v10,rfl,rfl,hys,hz,q10⟩) fun _ s11 ⟨_,H11,I11,_,q11⟩=>?_
    exact again I11 q11
 exact codeAny_compStart_list (loop _ rfl) (T.self X.A 0 _ _ _ stY (loop _ rfl))
theorem uF {X:Cx} {ix:Nat} {xn:Str} {pos' spos:Pos} {elt tg iter:Expr} {ifs:List Expr} {scope:Scope} {pos:Pos} {wi:TI} {g:TG} {tc:TT} {te:TE} (hN:X.N.Nodup) (hix:X.N[ix]?=some xn) (hxl:X.env.scope.names.lookup xn=some .local) (XN:List Str) (sc:Scope) (N:List Str) (js:List (Option Nat)) (hXN:X.N=XN) (hsc:X.env.scope=sc) (hc:X.calm=true) (hi:PI X tg iter wi)
  (hkind:scope.kind=.function) (hchk:jo N js XN scope.names=true) (hcell:∀ y∈scope.names,y.2≠.cell) (hfree:∀ y∈scope.names,y.2=.free→sc.names.lookup y.1=some .cell∨sc.names.lookup y.1=some .free)
  (hnames:∀ y∈scope.names,y.2=.local→scope.names.lookup y.1=some .local)
  (hg:∀ cl C s H ex pn E,PG (bJ X scope N cl C s H ex pn E) tg g) (ht:∀ cl C s H ex pn E,Ei (bJ X scope N cl C s H ex pn E) ifs tc) (he:∀ cl C s H ex pn E,PE (bJ X scope N cl C s H ex pn E) elt te)
  (hs:∀ x,foldedSetIterable iter X.env x=pure x:=by intro _; rfl) (hsw:swapsWith (.ListComp elt [⟨tg,iter,ifs,0⟩] scope pos) (some (.Name xn pos')) spos.line X.env=pure true:=by rfl) :
  PS X (.Assign [.Name xn pos'] (.ListComp elt [⟨tg,iter,ifs,0⟩] scope pos) spos) (JD (wg wi g tc te (ji js)) (qU ix)):=by
 subst hXN
 subst hsc
 exact CN hN hix hxl N (ji js) hc hi hkind hcell hfree hnames (fun σ _=>uw hchk σ) (fun σ i x v _ h1 h2=>Ar hchk σ i x v h1 h2) hg ht he hs hsw
end L2
set_option maxHeartbeats 1000000
namespace SO
open PySem PySem.W PyProof.Rows
variable {O:KeyOrd} {key:Nat→O.α} {N:Nat}
def KN (key:Nat→O.α) (p:Array Nat) (i:Nat):O.α:=key (p.getD i 0)
def dh (key:Nat→O.α) (p:Array Nat) (k:Nat):Prop:=∀ i j,i≤j→j < k→O.kle (KN key p i) (KN key p j)
def zO (key:Nat→O.α) (p:Array Nat) (k:Nat):Prop:=∀ i j,i≤j→j < k→O.kle (KN key p j) (KN key p i)
def InN (N:Nat) (p:Array Nat):Prop:=p.toList.Perm (List.range N)
theorem InN.size {p:Array Nat} (h:InN N p):p.size=N:=by simpa using h.length_eq
theorem InN.lt {p:Array Nat} (h:InN N p) {i:Nat} (hi:i < N):p.getD i 0 < N:=by
 have hs:i < p.size:=by rw [h.size]; exact hi
 have e:p.getD i 0=p[i]:=by simp [Array.getD,hs]
 rw [e]
 exact List.mem_range.mp (h.mem_iff.mp (by simp))
theorem InN.of {p q:Array Nat} (h:InN N p) (g:q.Perm p):InN N q:=(Array.perm_iff_toList_perm.mp g).trans h
theorem jN {p q:Array Nat} {i j:Nat} (h:p[i]?=q[j]?):KN key p i=KN key q j:=by
 unfold KN
 rw [Array.getD_eq_getD_getElem?,Array.getD_eq_getD_getElem?,h]
theorem qP {p:Array Nat} {src d:Nat} (hs:src < p.size) (hd:d≤src) (k:Nat) :
  KN key (bubble p src d) k=if k=src - d then KN key p src else if src - d < k∧k≤src then KN key p (k - 1) else KN key p k:=by
 have e:=getElem?_bubble hs d hd k
 by_cases h1:k=src - d
 ·rw [if_pos h1] at e ⊢; exact jN e
 ·rw [if_neg h1] at e ⊢
  by_cases h2:src - d < k∧k≤src
  ·rw [if_pos h2] at e ⊢; exact jN e
  ·rw [if_neg h2] at e ⊢; exact jN e
theorem Aa {p:Array Nat} {i j:Nat} (hj:j≤p.size) (k:Nat):KN key (kas_rev p i j) k=if i≤k∧k < j then KN key p (i+j - 1 - k) else KN key p k:=by
 have e:=getElem?_mirror_all (i:=i) hj k
 unfold kas_rev
 by_cases h1:i≤k∧k < j
 ·rw [if_pos h1] at e ⊢; exact jN e
 ·rw [if_neg h1] at e ⊢; exact jN e
theorem dG {p:Array Nat} {i j:Nat} (hj:j≤p.size) (heq:∀ k,i≤k→k < j→KN key p k=KN key p (j - 1)) (k:Nat):KN key (kas_rev p i j) k=KN key p k:=by
 rw [Aa hj]
 split
 ·rw [heq _ (by omega) (by omega),heq k (by omega) (by omega)]
 ·rfl
theorem InN.rev {p:Array Nat} (h:InN N p) (i j:Nat):InN N (kas_rev p i j):=h.of (mirror_perm _ _ _ _)
section
variable {cmp:Nat→Nat→(Bool→Shared→Prop)→Shared→Prop} {s:Shared}
def Cmp (key:Nat→O.α) (N:Nat) (cmp:Nat→Nat→(Bool→Shared→Prop)→Shared→Prop) (s:Shared):Prop :=
 ∀ (i j:Nat) (C:Bool→Shared→Prop),i < N→j < N→C (O.blt (key i) (key j)) s→cmp i j C s
theorem ask {α:Type} {p:Array Nat} {i j:Nat} {k:Bool→KasT α} {G:α→Shared→Prop} (hc:Cmp key N cmp s) (hp:InN N p) (hi:i < N) (hj:j < N)
  (h:(k (O.blt (KN key p i) (KN key p j))).kasWp cmp G s):(KasT.ask (p.getD i 0) (p.getD j 0) k).kasWp cmp G s :=
 hc _ _ _ (hp.lt hi) (hp.lt hj) h
theorem asc {p:Array Nat} {G:Nat→Shared→Prop} {nrem:Nat} (hc:Cmp key N cmp s) (hp:InN N p) (hN:nrem≤N):∀ (f n:Nat),1≤n→n+f=nrem→dh key p n →
  (∀ m,n≤m→m≤nrem→dh key p m→(m=nrem∨O.klt (KN key p m) (KN key p (m - 1)))→G m s)→(kas_asc p f n).kasWp cmp G s
 | 0,n,h1,hf,hs,h=>h n (Nat.le_refl _) (by omega) hs (.inl (by omega))
 | f+1,n,h1,hf,hs,h=>by
  unfold kas_asc
  refine ask hc hp (by omega) (by omega) ?_
  cases hl:O.blt (KN key p n) (KN key p (n - 1)) with
  | true =>
   rw [if_pos rfl]
   exact h n (Nat.le_refl _) (by omega) hs (.inr hl)
  | false =>
   rw [if_neg (by simp)]
   refine asc hc hp hN f (n+1) (by omega) (by omega) (fun i j hij hj=>?_) fun m a b c d=>h m (by omega) b c d
   by_cases hjx:j < n
   ·exact hs i j hij hjx
   ·have hj':j=n:=by omega
    subst hj'
    by_cases hi':i=j
    ·subst hi'; exact KeyOrd.kle_refl _
    ·exact KeyOrd.kle_trans (hs i (j - 1) (by omega) (by omega)) hl
theorem desc {G:Array Nat × Nat × Nat→Shared→Prop} {nrem:Nat} (hc:Cmp key N cmp s) (hN:nrem≤N):∀ (f:Nat) (p:Array Nat) (n q:Nat),InN N p→1≤n→n+f=nrem→zO key p n→q+1≤n →
  (∀ i,n - (q+1)≤i→i < n→KN key p i=KN key p (n - 1)) →
  (∀ p m q,InN N p→n≤m→m≤nrem→zO key p m→q+1≤m→(∀ i,m - (q+1)≤i→i < m→KN key p i=KN key p (m - 1))→G (p,m,q) s)→(kas_desc f p n q).kasWp cmp G s
 | 0,p,n,q,hp,h1,hf,hs,hq,he,h=>h p n q hp (Nat.le_refl _) (by omega) hs hq he
 | f+1,p,n,q,hp,h1,hf,hs,hq,he,h=>by
  unfold kas_desc
  have hsz:n≤p.size:=by rw [hp.size]; omega
  refine ask hc hp (by omega) (by omega) ?_
  cases hl:O.blt (KN key p n) (KN key p (n - 1)) with
  | true =>
   rw [if_pos rfl]
   have step1:∀ xs:Array Nat,(∀ k,KN key xs k=KN key p k)→zO key xs (n+1):=by
    intro xs hk i j hij hj
    rw [hk,hk]
    by_cases hjx:j < n
    ·exact hs i j hij hjx
    ·have hj':j=n:=by omega
     subst hj'
     by_cases hi':i=j
     ·subst hi'; exact KeyOrd.kle_refl _
     ·exact KeyOrd.kle_trans (KeyOrd.kle_of_klt hl) (hs i (j - 1) (by omega) (by omega))
   by_cases hneq:q > 0
   ·rw [if_pos hneq]
    exact desc hc hN f _ (n+1) 0 (hp.rev _ _) (by omega) (by omega) (step1 _ (dG hsz he)) (by omega) (fun i a b=>by congr 1; omega) fun p m q x a b c d e=>h p m q x (by omega) b c d e
   ·rw [if_neg hneq]
    exact desc hc hN f _ (n+1) 0 hp (by omega) (by omega) (step1 _ fun _=>rfl) (by omega) (fun i a b=>by congr 1; omega) fun p m q x a b c d e=>h p m q x (by omega) b c d e
  | false =>
   rw [if_neg (by simp)]
   refine ask hc hp (by omega) (by omega) ?_
   cases hg:O.blt (KN key p (n - 1)) (KN key p n) with
   | true =>
    rw [if_pos rfl]
    exact h p n q hp (Nat.le_refl _) (by omega) hs hq he
   | false =>
    rw [if_neg (by simp)]
    have heqx:KN key p n=KN key p (n - 1):=KeyOrd.kle_antisymm hg hl
    refine desc hc hN f p (n+1) (q+1) hp (by omega) (by omega) (fun i j hij hj=>?_) (by omega) (fun i a b=>?_) fun p m q x a b c d e=>h p m q x (by omega) b c d e
    ·by_cases hjx:j < n
     ·exact hs i j hij hjx
     ·have hj':j=n:=by omega
      subst hj'
      by_cases hi':i=j
      ·subst hi'; exact KeyOrd.kle_refl _
      ·rw [heqx]; exact hs i (j - 1) (by omega) (by omega)
    ·rw [show n+1 - 1=n by omega]
     by_cases hix:i=n
     ·subst hix; rfl
     ·rw [heqx]; exact he i (by omega) (by omega)
theorem tail3 {p:Array Nat} {n nrem:Nat} {G:Nat × Array Nat→Shared→Prop} (hc:Cmp key N cmp s) (hp:InN N p) (hN:nrem≤N) (h1:1≤n) (hn:n≤nrem) (hs:zO key p n)
  (h:∀ m q,InN N q→1≤m→m≤nrem→dh key q m→G (m,q) s):(kas_tail3 n nrem p).kasWp cmp G s:=by
 unfold kas_tail3
 rw [KasT.kasWp_bind]
 have hsz:n≤p.size:=by rw [hp.size]; omega
 refine asc (nrem:=nrem) hc (hp.rev _ _) hN _ n h1 (by omega) (fun i j hij hj=>?_) fun m a b c _=>h m _ (hp.rev _ _) (by omega) b c
 rw [Aa hsz,Aa hsz,if_pos (by omega),if_pos (by omega)]
 exact hs _ _ (by omega) (by omega)
theorem descPart {p:Array Nat} {n nrem:Nat} {G:Nat × Array Nat→Shared→Prop} (hc:Cmp key N cmp s) (hp:InN N p) (hN:nrem≤N) (hn:n+1≤nrem) (hs:zO key p (n+1))
  (h:∀ m q,InN N q→1≤m→m≤nrem→dh key q m→G (m,q) s):(kas_descPart n nrem p).kasWp cmp G s:=by
 unfold kas_descPart
 rw [KasT.kasWp_bind]
 refine desc (nrem:=nrem) hc hN _ p (n+1) 0 hp (by omega) (by omega) hs (by omega) (fun i a b=>by congr 1; omega) fun p' m q hp' hm1 hm2 hf hq he=>?_
 dsimp only
 have hsz:m≤p'.size:=by rw [hp'.size]; omega
 by_cases hneq:q > 0
 ·rw [if_pos hneq]
  refine tail3 hc (hp'.rev _ _) hN (by omega) hm2 (fun i j hij hj=>?_) h
  rw [dG hsz he,dG hsz he]
  exact hf i j hij hj
 ·rw [if_neg hneq]
  exact tail3 hc hp' hN (by omega) hm2 hf h
theorem count {p:Array Nat} {nrem:Nat} {G:Nat × Array Nat→Shared→Prop} (hc:Cmp key N cmp s) (hp:InN N p) (hN:nrem≤N) (h1:1≤nrem)
  (h:∀ m q,InN N q→1≤m→m≤nrem→dh key q m→G (m,q) s):(kas_count nrem p).kasWp cmp G s:=by
 unfold kas_count
 rw [KasT.kasWp_bind]
 refine asc (nrem:=nrem) hc hp hN _ 1 (Nat.le_refl _) (by omega) (fun i j hij hj=>by have:i=j:=(by omega); subst this; exact KeyOrd.kle_refl _) fun n hn1 hn2 hsn hor=>?_
 by_cases hnn:n=nrem
 ·rw [if_pos (by simpa using hnn)]
  exact h n p hp hn1 hn2 hsn
 ·rw [if_neg (by simpa using hnn)]
  have hlt:O.klt (KN key p n) (KN key p (n - 1)):=hor.resolve_left hnn
  by_cases hgt:n > 1
  ·rw [if_pos hgt]
   refine ask hc hp (by omega) (by omega) ?_
   cases hrose:O.blt (KN key p 0) (KN key p (n - 1)) with
   | true =>
    rw [if_pos rfl]
    exact h n p hp hn1 hn2 hsn
   | false =>
    rw [if_neg (by simp)]
    have hsz:n≤p.size:=by rw [hp.size]; omega
    have hall:∀ k,0≤k→k < n→KN key p k=KN key p (n - 1):=by
     intro k _ hk
     have a1:=hsn 0 k (by omega) hk
     have a2:=hsn k (n - 1) (by omega) (by omega)
     exact KeyOrd.kle_antisymm a2 (KeyOrd.kle_trans hrose a1)
    refine descPart hc (hp.rev _ _) hN (by omega) (fun i j hij hj=>?_) h
    rw [dG hsz hall,dG hsz hall]
    by_cases hjn:j < n
    ·rw [hall i (by omega) (by omega),hall j (by omega) hjn]; exact KeyOrd.kle_refl _
    ·have hj':j=n:=by omega
     subst hj'
     by_cases hi':i=j
     ·subst hi'; exact KeyOrd.kle_refl _
     ·rw [hall i (by omega) (by omega)]; exact KeyOrd.kle_of_klt hlt
  ·rw [if_neg hgt]
   have hn1':n=1:=by omega
   subst hn1'
   refine descPart hc hp hN (by omega) (fun i j hij hj=>?_) h
   by_cases hi':i=j
   ·subst hi'; exact KeyOrd.kle_refl _
   ·have hi0:i=0:=by omega
    have hj1:j=1:=by omega
    subst hi0; subst hj1
    exact KeyOrd.kle_of_klt hlt
theorem place {p:Array Nat} {k:Nat} {G:Nat→Shared→Prop} (hc:Cmp key N cmp s) (hp:InN N p) (hk:k < N) (hs:dh key p k):∀ (f l r:Nat),l≤r→r≤k→r - l≤f →
  (∀ i,i < l→O.kle (KN key p i) (KN key p k))→(∀ i,r≤i→i < k→O.klt (KN key p k) (KN key p i)) →
  (∀ l,l≤k→(∀ i,i < l→O.kle (KN key p i) (KN key p k))→(∀ i,l≤i→i < k→O.klt (KN key p k) (KN key p i))→G l s)→(kas_place p k f l r).kasWp cmp G s
 | 0,l,r,hlr,hrk,hf,hlo,hhi,h=>by
  have e:l=r:=by omega
  subst e
  exact h l hrk hlo hhi
 | f+1,l,r,hlr,hrk,hf,hlo,hhi,h=>by
  unfold kas_place
  by_cases hge:l ≥ r
  ·rw [if_pos hge]
   have e:l=r:=by omega
   subst e
   exact h l hrk hlo hhi
  ·rw [if_neg hge]
   refine ask hc hp hk (by omega) ?_
   cases hl:O.blt (KN key p k) (KN key p ((l+r) / 2)) with
   | true =>
    rw [if_pos rfl]
    exact place hc hp hk hs f l ((l+r) / 2) (by omega) (by omega) (by omega) hlo (fun i a b=>KeyOrd.klt_of_klt_of_kle hl (hs _ _ a b)) h
   | false =>
    rw [if_neg (by simp)]
    exact place hc hp hk hs f ((l+r) / 2+1) r (by omega) (by omega) (by omega) (fun i a=>KeyOrd.kle_trans (hs i ((l+r) / 2) (by omega) (by omega)) hl) hhi h
theorem bin {n:Nat} {G:Array Nat→Shared→Prop} (hc:Cmp key N cmp s) (hN:n≤N):∀ (f:Nat) (p:Array Nat) (k:Nat),InN N p→k+f=n→dh key p k →
  (∀ p,InN N p→dh key p n→G p s)→(kas_bin f p k).kasWp cmp G s
 | 0,p,k,hp,hf,hs,h=>h p hp (by rw [show n=k by omega]; exact hs)
 | f+1,p,k,hp,hf,hs,h=>by
  unfold kas_bin
  rw [KasT.kasWp_bind]
  refine place hc hp (by omega) hs k 0 k (by omega) (Nat.le_refl _) (by omega) (fun i a=>by omega) (fun i a b=>by omega) fun l hlk hlo hhi=>?_
  refine bin hc hN f _ (k+1) (hp.of (bubble_perm _ _ _)) (by omega) (fun i j hij hj=>?_) h
  have hks:k < p.size:=by rw [hp.size]; omega
  rw [qP hks (by omega),qP hks (by omega),show k - (k - l)=l by omega]
  repeat' split
  all_goals first
   | (exfalso; omega)
   | exact KeyOrd.kle_refl _
   | exact hlo _ (by omega)
   | exact KeyOrd.kle_of_klt (hhi _ (by omega) (by omega))
   | exact hs _ _ (by omega) (by omega)
theorem sort {G:Array Nat→Shared→Prop} (hc:Cmp key N cmp s) (h1:1≤N) (h:∀ p,InN N p→dh key p N→G p s):(kas_sort N).kasWp cmp G s:=by
 unfold kas_sort
 rw [KasT.kasWp_bind]
 refine count hc (show InN N _ by unfold InN; simp) (Nat.le_refl _) h1 fun m q hq hm1 hm2 hs=>?_
 dsimp only
 by_cases hlt:m < N
 ·rw [if_pos hlt,show max m 1=m by omega]
  exact bin hc (Nat.le_refl _) _ q m hq (by omega) hs h
 ·rw [if_neg hlt]
  obtain rfl:m=N:=by omega
  exact h q hq hs
end
section
variable {prog:Program} {w:World} {A:Around} {E:Value→Shared→Prop} {s:Shared}
def Keeps (h h':Heap):Prop:=∀ b o,h.get? b=some o→h'.get? b=some o
theorem zW {a:Addr} {vs:List Value} {n:Nat} {P:PySem.Fin→Shared→Prop} (key:Nat→O.α) (κ:SortKind) (ho:s.heap.get? a=some (seqObj "list" vs.toArray n)) (h64:vs.length < 64)
  (hk:2≤vs.length→∀ h',(∀ b o,b≠a→s.heap.get? b=some o→h'.get? b=some o)→∀ (Q:SortKind→Shared→Prop),Q κ { s with heap:=h' }→wpAny (model prog w) A (keyKind' vs.toArray) Q E { s with heap:=h' })
  (hc:∀ h',(∀ b o,b≠a→s.heap.get? b=some o→h'.get? b=some o)→Cmp key vs.length (kas_ask prog w A κ vs) { s with heap:=h' })
  (h:∀ p,InN vs.length p→dh key p vs.length→P (.done (.ret .none)) { s with heap:=sortedHeap s.heap a vs (List.toArray (p.toList.map fun i=>vs.getD i Value.none)) }) :
  wpAny (model prog w) A (Builtin.«list.sort» ⟨[.ref a],[]⟩) P E s:=by
 rw [list_sort_plain]
 have ha:a < s.heap.objs.size:=Heap.lt_size ho
 refine wpAny_bind (listItems_at ho rfl ?_)
 refine wpAny_bind (listUpdate_at ho rfl ?_ (by rw [sizeLine_eq]; simp; omega))
 obtain ⟨e1,ho1⟩:∃ e1,(s.heap.update a (Obj.mapSeq fun _=>#[])).get? a=some (seqObj "list" #[] e1):=⟨_,get?_update_seq ho (fun _=>#[])⟩
 refine wpAny_bind (seqEpoch_at ho1 rfl ?_)
 refine wpAny_bind (wpAny_newTuple ?_ (by rw [sizeLine_eq]; simp; omega))
 refine wpAny_bind (wpAny_newList ?_)
 refine wpAny_holding ?_
 have keep:∀ b o,b≠a→s.heap.get? b=some o→(((s.heap.update a (Obj.mapSeq fun _=>#[])).push (seqObj "tuple" vs.toArray 0)).push (seqObj "list" #[] 0)).get? b=some o:=fun b o hb q=>by
  have hlt:b < s.heap.objs.size:=Heap.lt_size q
  rw [Heap.get?_push_ne _ _ _ (by rw [size_push',Heap.size_update]; exact Nat.ne_of_lt (Nat.lt_succ_of_lt hlt)),Heap.get?_push_ne _ _ _ (by rw [Heap.size_update]; exact Nat.ne_of_lt hlt),Heap.get?_update_ne _ _ _ _ hb]
  exact q
 have ho6:(((s.heap.update a (Obj.mapSeq fun _=>#[])).push (seqObj "tuple" vs.toArray 0)).push (seqObj "list" #[] 0)).get? a=some (seqObj "list" #[] e1):=by
  rw [Heap.get?_push_ne _ _ _ (by rw [size_push',Heap.size_update]; exact Nat.ne_of_lt (Nat.lt_succ_of_lt ha)),Heap.get?_push_ne _ _ _ (by rw [Heap.size_update]; exact Nat.ne_of_lt ha)]
  exact ho1
 show wpAny (model prog w) A _ P E { s with heap:=((s.heap.update a (Obj.mapSeq fun _=>#[])).push (seqObj "tuple" vs.toArray 0)).push (seqObj "list" #[] 0) }
 dsimp only
 have hsz:vs.toArray.size=vs.length:=by simp
 by_cases h2:vs.toArray.size < 2
 ·rw [if_pos h2,if_pos h2]
  refine wpAny_bind (wpAny_pure ?_)
  rw [StateT.run_pure]
  refine wpAny_bind (wpAny_pure ?_)
  dsimp only
  refine wpAny_bind (seqEpoch_at ho6 rfl ?_)
  have e:((arrOf (SortSt.mk' general' (vs.toArray.zip vs.toArray) #[] 7 none)).map (·.2))=List.toArray ((List.range vs.length).toArray.toList.map fun i=>vs.getD i Value.none):=by
   show (vs.toArray.zip vs.toArray).map (·.2)=_
   apply Array.toList_inj.mp
   apply List.ext_getElem
   ·simp
   ·intro i h1 h2'
    simp at h1 h2' ⊢
    simp [h1]
  rw [e]
  refine wpAny_bind (listUpdate_at ho6 rfl ?_ (hsz2:=by rw [sizeLine_eq]; simp; omega))
  simp only [bne_self_eq_false,Bool.false_eq_true,if_false]
  refine wpAny_pure (h _ (show InN vs.length (List.range vs.length).toArray from List.Perm.refl _) ?_)
  intro i j hij hj
  have:i=j:=by omega
  subst this; exact KeyOrd.kle_refl _
 ·rw [if_neg h2,if_neg h2]
  refine wpAny_bind (hk (by omega) _ keep _ ?_)
  refine wpAny_bind (wpAny_mono (kat_run (ks:=vs) (vs:=vs) (Q:=fun st' s'=>∃ p:Array Nat,arrOf st'=p.map (kas_item (vs.toArray.zip vs.toArray))∧failedOf st'=none∧s'=_∧InN vs.length p∧dh key p vs.length)
   (G:=fun p s'=>s'=_∧InN vs.length p∧dh key p vs.length) rfl (by omega) h64 (fun p st' s' _ har hf hg=>⟨p,har,hf,hg⟩) (sort (hc _ keep) (by omega) fun p a b=>⟨rfl,a,b⟩)) ?_ fun _ _ x=>x)
  rintro ⟨⟨⟩,st'⟩ s' ⟨p,har,hf,rfl,hi,hso⟩
  dsimp only
  have hpl:p.size≤63:=by rw [hi.size]; omega
  refine wpAny_bind (seqEpoch_at ho6 rfl ?_)
  rw [kat_snds rfl har]
  refine wpAny_bind (listUpdate_at ho6 rfl ?_ (hsz2:=by rw [sizeLine_eq]; simp; omega))
  rw [hf]
  simp only [bne_self_eq_false,Bool.false_eq_true,if_false]
  exact wpAny_pure (h p hi hso)
theorem zR {v:Value} {vs:List Value} {g:Heap} {Q:Value→Shared→Prop} (key:Nat→O.α) (κ:SortKind) (h64:vs.length < 64) (kg:Keeps s.heap g)
  (hcol:∀ (Q:List Value→Shared→Prop),Q vs { s with heap:=g }→wpAny (model prog w) A.in1 (collect v) Q E { s with heap:=s.heap })
  (hk:2≤vs.length→∀ h',Keeps s.heap h'→∀ (E:Value→Shared→Prop) (Q:SortKind→Shared→Prop),Q κ { s with heap:=h' }→wpAny (model prog w) A.in1.in1 (keyKind' vs.toArray) Q E { s with heap:=h' })
  (hc:∀ h',Keeps s.heap h'→Cmp key vs.length (kas_ask prog w A.in1.in1 κ vs) { s with heap:=h' })
  (h:∀ (g':Heap) (p:Array Nat),Keeps s.heap g'→InN vs.length p→dh key p vs.length→(∃ n,g'.get? g.objs.size=some (seqObj "list" (List.toArray (p.toList.map fun i=>vs.getD i Value.none)) n))→Q (.ref g.objs.size) { s with heap:=g' }) :
  wpAny (model prog w) A (call (.builtin "sorted") [v]) Q E s:=by
 refine Calls.call_function_entry kind_sorted plain_sorted entry_sorted (args_sorted1 _) ?_
 unfold Builtin.«sorted»
 refine wpAny_bind (m:=checkCount "sorted" 1 1 _) (wpAny_pure ?_)
 refine wpAny_bind (hcol _ ?_)
 refine wpAny_bind (wpAny_newList ?_ (by rw [sizeLine_eq]; omega))
 have hoL:(g.push (seqObj "list" vs.toArray 0)).get? g.objs.size=some (seqObj "list" vs.toArray 0):=Heap.get?_push_size _ rfl
 have keep:∀ h',(∀ b o,b≠g.objs.size→(g.push (seqObj "list" vs.toArray 0)).get? b=some o→h'.get? b=some o)→Keeps s.heap h':=fun h' k b o q=>by
  have q':=kg b o q
  exact k b o (Nat.ne_of_lt (Heap.lt_size q')) (Heap.get?_push_of_some _ q')
 show wpAny _ _ _ _ _ { s with heap:=g.push (seqObj "list" vs.toArray 0) }
 refine wpAny_bind (wpAny_holding (wpAny_call_entry slot_list_sort ⟨_,hoL,rfl⟩ entry_list_sort (zW key κ hoL h64 (fun z h' k Q q=>hk z h' (keep h' k) _ Q q) (fun h' k=>hc h' (keep h' k)) fun p a1 a2=>⟨_,rfl,?_⟩) (args_list_sort _)))
 refine wpAny_pure ⟨_,rfl,h _ p (keep _ fun b o hb q=>?_) a1 a2 ?_⟩
 ·unfold sortedHeap
  have hlt:b < (g.push (seqObj "list" vs.toArray 0)).objs.size:=Heap.lt_size q
  rw [Heap.get?_update_ne _ _ _ _ hb,Heap.get?_push_ne _ _ _ (by rw [size_push',Heap.size_update]; exact Nat.ne_of_lt (Nat.lt_succ_of_lt hlt)),Heap.get?_push_ne _ _ _ (by rw [Heap.size_update]; exact Nat.ne_of_lt hlt),Heap.get?_update_ne _ _ _ _ hb]
  exact q
 ·unfold sortedHeap
  have ha:g.objs.size < (g.push (seqObj "list" vs.toArray 0)).objs.size:=Heap.lt_size hoL
  obtain ⟨e1,ho1⟩:∃ e1,((g.push (seqObj "list" vs.toArray 0)).update g.objs.size (Obj.mapSeq fun _=>#[])).get? g.objs.size=some (seqObj "list" #[] e1):=⟨_,get?_update_seq hoL (fun _=>#[])⟩
  have ho6:((((g.push (seqObj "list" vs.toArray 0)).update g.objs.size (Obj.mapSeq fun _=>#[])).push (seqObj "tuple" vs.toArray 0)).push (seqObj "list" #[] 0)).get? g.objs.size=some (seqObj "list" #[] e1):=by
   rw [Heap.get?_push_ne _ _ _ (by rw [size_push',Heap.size_update]; exact Nat.ne_of_lt (Nat.lt_succ_of_lt ha)),Heap.get?_push_ne _ _ _ (by rw [Heap.size_update]; exact Nat.ne_of_lt ha)]
   exact ho1
  exact ⟨_,get?_update_seq ho6 _⟩
end
end SO
set_option maxHeartbeats 4000000
namespace PySem.SeqAt
open AutoSeq1 (wpAny_loadPart')
open MeetsSeq MeetsSeq2 MeetsSeq3 SeqRoads2
def vZ (A:Around) (s:Shared) (y x:Value) (b:Bool):Prop :=
 ∀ (prog:Program) (w:World) (E:Value→Shared→Prop) (Q:Value→Shared→Prop),Q (.bool b) s→wpAny (model prog w) A (richCompare .Lt y x) Q E s
def nD (e f:Nat→Bool) (fin:Bool):List Nat→Bool
 | []=>fin
 | i :: r=>if e i=true then nD e f fin r else f i
theorem wH (l b:Addr) (items items2:Array Value) (n n2:Nat) (dd dd2:Option Addr) (sl sl2:Array (Option Value)) (e f:Nat→Bool) :
  Meets (Builtin.«tuple.__lt__» ⟨[.ref l,.ref b],[]⟩)
   (fun A R s=>s.heap.get? l=some { cls:=.type "tuple",dict:=dd,data:=.seq items n,slots:=sl }∧s.heap.get? b=some { cls:=.type "tuple",dict:=dd2,data:=.seq items2 n2,slots:=sl2 } ∧
    (∀ j (h1:j < items.size) (h2:j < items2.size),EqAt A.in1 s items[j] items2[j] (e j))∧(∀ j (h1:j < items.size) (h2:j < items2.size),e j=false→vZ A.in1 s items[j] items2[j] (f j)) ∧
    R (.ok (.ret (.bool (nD e f (decide (items.size < items2.size)) (List.range (min items.size items2.size)))))) s) :=
 .of_wp fun prog w A R s h=>by
  obtain ⟨hp,g,d,tk,os⟩:=s; obtain ⟨hl,hb,he,hf,h⟩:=h
  have f2:=AutoSeq1.sub_tuple_tuple
  have hZ:(items.toList.zip items2.toList).length=min items.size items2.size:=by simp
  wp_walk using wpAny_loadPart' hl,wpAny_loadPart' hb,wpAny_forIn_list _ (fun rest b s'=>b.1=none∧s'=⟨hp,g,d,tk,os⟩∧∃ i,rest=(items.toList.zip items2.toList).drop i ∧
   R (.ok (.ret (.bool (nD e f (decide (items.size < items2.size)) ((List.range (min items.size items2.size)).drop i))))) ⟨hp,g,d,tk,os⟩) _
  case turn =>
   rintro ⟨y,x⟩ rest b s' ⟨hb',rfl,i,hz,hR⟩
   have hlt:i < (items.toList.zip items2.toList).length:=by
    rcases Nat.lt_or_ge i (items.toList.zip items2.toList).length with h' | h'
    ·exact h'
    ·rw [List.drop_of_length_le h'] at hz; cases hz
   have hm:i < min items.size items2.size:=hZ ▸ hlt
   have h1:i < items.size:=Nat.lt_of_lt_of_le hm (Nat.min_le_left _ _)
   have h2:i < items2.size:=Nat.lt_of_lt_of_le hm (Nat.min_le_right _ _)
   rw [List.drop_eq_getElem_cons hlt] at hz
   injection hz with hyx hrest
   have hy:y=items[i]:=by have:=congrArg Prod.fst hyx; simpa using this
   have hx:x=items2[i]:=by have:=congrArg Prod.snd hyx; simpa using this
   subst hy hx
   have hd:(List.range (min items.size items2.size)).drop i=i :: (List.range (min items.size items2.size)).drop (i+1):=by simp [List.drop_eq_getElem_cons,hm]
   rw [hd] at hR
   refine wpAny_bind (he i h1 h2 prog w _ _ ?_)
   cases hy:e i with
   | true =>
    have hR':R (.ok (.ret (.bool (nD e f (decide (items.size < items2.size)) ((List.range (min items.size items2.size)).drop (i+1)))))) ⟨hp,g,d,tk,os⟩:=by
     have:nD e f (decide (items.size < items2.size)) (i :: (List.range (min items.size items2.size)).drop (i+1))=nD e f (decide (items.size < items2.size)) ((List.range (min items.size items2.size)).drop (i+1)):=by
      show (if e i=true then _ else _)=_
      rw [if_pos hy]
     rw [this] at hR
     exact hR
    wp_walk
    exact ⟨rfl,rfl,i+1,hrest,hR'⟩
   | false =>
    have hR':R (.ok (.ret (.bool (f i)))) ⟨hp,g,d,tk,os⟩:=by
     have:nD e f (decide (items.size < items2.size)) (i :: (List.range (min items.size items2.size)).drop (i+1))=f i:=by
      show (if e i=true then _ else _)=_
      rw [if_neg (by simp [hy])]
     rw [this] at hR
     exact hR
    simp only [Bool.not_false,if_true]
    refine wpAny_bind (wpAny_rule (wpAny_bind (hf i h1 h2 hy prog w _ _ ?_)))
    wp_walk
    exact ⟨_,rfl,hR'⟩
  case fin =>
   rintro ⟨b1,b2⟩ s' ⟨hb',rfl,i,hz,hR⟩
   simp only at hb'
   subst hb'
   have hge:min items.size items2.size≤i:=by
    rcases Nat.lt_or_ge i (items.toList.zip items2.toList).length with h' | h'
    ·rw [List.drop_eq_getElem_cons h'] at hz; cases hz
    ·exact hZ ▸ h'
   rw [List.drop_of_length_le (by simpa using hge)] at hR
   wp_walk
   exact ⟨_,rfl,by simpa [Builtin.Tuple.tupleCompareSizes,nD] using hR⟩
  case h =>
   exact ⟨rfl,rfl,0,rfl,by simpa using h⟩
section
variable {A:Around} {s:Shared}
theorem vZ.tuples {l b:Addr} {items items2:Array Value} {e f:Nat→Bool} (hl:s.heap.IsTuple l items) (hb:s.heap.IsTuple b items2) (hu:A.units < cLine)
  (he:∀ j (h1:j < items.size) (h2:j < items2.size),EqAt A.in1 s items[j] items2[j] (e j)) (hf:∀ j (h1:j < items.size) (h2:j < items2.size),e j=false→vZ A.in1 s items[j] items2[j] (f j)) :
  vZ A s (.ref l) (.ref b) (nD e f (decide (items.size < items2.size)) (List.range (min items.size items2.size))):=fun prog w E Q h=>by
 obtain ⟨⟨cls,dd,data,sl⟩,ho,hc,n,hd⟩:=id hl
 obtain ⟨⟨cls2,dd2,data2,sl2⟩,ho2,hc2,n2,hd2⟩:=id hb
 simp only at hc hd hc2 hd2
 subst hc hd hc2 hd2
 exact richCompare_meets_room (op:=.Lt) ⟨_,ho,rfl⟩ ⟨_,ho2,rfl⟩ F.slot_tuple_lt F.entry_tuple_lt (F.args_tuple_lt_2 _ _) (wH l b items items2 n n2 dd dd2 sl sl2 e f)
  ⟨ho,ho2,he,hf,show Value.bool (nD e f (decide (items.size < items2.size)) (List.range (min items.size items2.size)))≠Value.notImplemented∧Q (.bool (nD e f (decide (items.size < items2.size)) (List.range (min items.size items2.size)))) s from ⟨(fun x=>nomatch x),h⟩⟩ hu
end
end PySem.SeqAt
set_option maxHeartbeats 400000
namespace L2
open PySem PySem.Spec PyProof.Rows
def dj:D→Nat
 | .non=>0 | .bl _=>1 | .int _=>2 | .str _=>3 | .tup _=>4
open Classical in
noncomputable def eqD (a b:D):Bool:=decide (a=b)
theorem G4 {x y:Str} (e:x.cps.toList=y.cps.toList):x=y:=by
 cases x; cases y
 simp only at e
 congr
 exact Array.toList_inj.mp e
theorem gF {a b:D} (h:eqD a b=true):a=b:=@of_decide_eq_true _ (Classical.propDecidable _) h
theorem lY (d:D):eqD d d=true:=@decide_eq_true _ (Classical.propDecidable _) rfl
theorem gn {a b:D}:eqD a b=true↔a=b:=⟨gF,fun h=>by subst h; exact lY _⟩
theorem kZ {a b:D} (h:eqD a b=false):a≠b:=fun e=>by
 rw [gn.mpr e] at h
 cases h
theorem rT {a b:D} (h:a≠b):eqD a b=false:=by
 cases e:eqD a b with
 | true=>exact absurd (gF e) h
 | false=>rfl
def klt:D→D→Bool
 | .bl a=>fun e=>match e with | .bl b=>!a && b | _=>false
 | .int a=>fun e=>match e with | .int b=>decide (a < b) | _=>false
 | .str x=>fun e=>match e with | .str y=>decide (x.cps.toList < y.cps.toList) | _=>false
 | _=>fun _=>false
def Bl (a b:D):Bool:=decide (dj a < dj b) || klt a b
mutual
noncomputable def dlt:D→D→Bool
 | .tup xs=>fun e=>match e with | .tup ys=>ur xs ys | _=>false
 | .non=>Bl .non
 | .bl b=>Bl (.bl b)
 | .int i=>Bl (.int i)
 | .str x=>Bl (.str x)
noncomputable def ur:List D→List D→Bool
 | []=>fun ys=>match ys with | []=>false | _ :: _=>true
 | x :: xs=>fun ys=>match ys with | []=>false | y :: ys=>if eqD x y=true then ur xs ys else dlt x y
end
theorem Bk (a b:Int):dlt (.int a) (.int b)=decide (a < b):=rfl
theorem yX (x y:Str):dlt (.str x) (.str y)=decide (x.cps.toList < y.cps.toList):=rfl
theorem Ep (xs ys:List D):dlt (.tup xs) (.tup ys)=ur xs ys:=rfl
theorem Hg (y:D) (ys:List D):ur [] (y :: ys)=true:=rfl
theorem Fz (x:D) (xs:List D):ur (x :: xs) []=false:=rfl
theorem qF (x y:D) (xs ys:List D):ur (x :: xs) (y :: ys)=if eqD x y=true then ur xs ys else dlt x y:=rfl
theorem Hl {x y:Str} (h1:¬ x.cps.toList < y.cps.toList) (h2:¬ y.cps.toList < x.cps.toList):x=y :=
 G4 (List.le_antisymm (List.not_lt.mp h2) (List.not_lt.mp h1))
theorem ff {P:Prop} (h:false=true):P:=Bool.noConfusion h
theorem Jg {P:D→D→Prop} (h1:P (.bl false) (.bl true)) (h2:∀ i j:Int,i < j→P (.int i) (.int j)) (h3:∀ x y:Str,x.cps.toList < y.cps.toList→P (.str x) (.str y)):∀ {a b:D},klt a b=true→P a b:=by
 intro a b h
 cases a with
 | bl p =>
  cases b with
  | bl q=>cases p <;> cases q <;> first | exact h1 | exact ff h
  | non=>exact ff h
  | int _=>exact ff h
  | str _=>exact ff h
  | tup _=>exact ff h
 | int p =>
  cases b with
  | int q=>exact h2 p q (of_decide_eq_true h)
  | non=>exact ff h
  | bl _=>exact ff h
  | str _=>exact ff h
  | tup _=>exact ff h
 | str p =>
  cases b with
  | str q=>exact h3 p q (of_decide_eq_true h)
  | non=>exact ff h
  | bl _=>exact ff h
  | int _=>exact ff h
  | tup _=>exact ff h
 | non=>exact ff h
 | tup _=>exact ff h
theorem vR {a b:D} (h:klt a b=true):dj a=dj b∧dj a < 4:=Jg (P:=fun a b=>dj a=dj b∧dj a < 4) ⟨rfl,by decide⟩ (fun _ _ _=>⟨rfl,by show 2 < 4; decide⟩) (fun _ _ _=>⟨rfl,by show 3 < 4; decide⟩) h
theorem JK {a b c:D} (h:klt a b=true):klt b c=true→klt a c=true:=Jg (P:=fun a b=>klt b c=true→klt a c=true) (fun h=>by cases c <;> exact ff h)
 (fun i j hij h=>by
  cases c with
  | int k=>exact decide_eq_true (Int.lt_trans hij (of_decide_eq_true h))
  | _=>exact ff h)
 (fun x y hxy h=>by
  cases c with
  | str z=>exact decide_eq_true (List.lt_trans hxy (of_decide_eq_true h))
  | _=>exact ff h) h
theorem Bd {a b:D} (h:Bl a b=true):dj a < dj b∨klt a b=true:=(Bool.or_eq_true _ _ ▸ h:_∨_).imp of_decide_eq_true id
theorem uO {a b:D} (h:dj a < dj b):Bl a b=true:=by unfold Bl; rw [decide_eq_true h]; rfl
theorem Bg {a b:D} (h:klt a b=true):Bl a b=true:=by unfold Bl; rw [h,Bool.or_true]
theorem Av:∀ {a:D} (b:D),dj a < 4→dlt a b=Bl a b
 | .non,_,_=>rfl
 | .bl _,_,_=>rfl
 | .int _,_,_=>rfl
 | .str _,_,_=>rfl
 | .tup _,_,h=>absurd h (by show ¬ 4 < 4; decide)
theorem Az {xs:List D} {b:D} (h:dlt (.tup xs) b=true):∃ ys,b=.tup ys∧ur xs ys=true:=by
 cases b with
 | tup ys=>exact ⟨ys,rfl,h⟩
 | _=>exact ff h
theorem Eh {a:D} (h:¬ dj a < 4):∃ xs,a=.tup xs:=by
 cases a with
 | tup xs=>exact ⟨xs,rfl⟩
 | non=>exact absurd (show 0 < 4 by decide) h
 | bl _=>exact absurd (show 1 < 4 by decide) h
 | int _=>exact absurd (show 2 < 4 by decide) h
 | str _=>exact absurd (show 3 < 4 by decide) h
theorem Di {a b:D} (h:dlt a b=true):dj a≤dj b:=by
 by_cases ha:dj a < 4
 ·rw [Av b ha] at h
  rcases Bd h with h | h
  ·omega
  ·exact Nat.le_of_eq (vR h).1
 ·obtain ⟨xs,rfl⟩:=Eh ha
  obtain ⟨ys,rfl,_⟩:=Az h
  exact Nat.le_refl _
theorem tr0 {a b c:D} (ha:dj a < 4) (h1:dlt a b=true) (h2:dlt b c=true):dlt a c=true:=by
 rw [Av _ ha] at h1 ⊢
 have hr:=Di h2
 rcases Bd h1 with h | h
 ·exact uO (Nat.lt_of_lt_of_le h hr)
 ·have hk:=vR h
  rw [Av _ (by rw [← hk.1]; exact hk.2)] at h2
  rcases Bd h2 with q | q
  ·exact uO (by rw [hk.1]; exact q)
  ·exact Bg (JK h q)
theorem Iv:∀ {a:D} (b:D),dj a < 4→dlt a b=false→dlt b a=false→a=b:=by
 intro a b ha h1 h2
 rw [Av _ ha] at h1
 have k1:¬ dj a < dj b:=fun z=>by rw [uO z] at h1; cases h1
 have hb:dj b < 4:=by omega
 rw [Av _ hb] at h2
 have k2:¬ dj b < dj a:=fun z=>by rw [uO z] at h2; cases h2
 have q1:klt a b=false:=by
  cases h:klt a b with
  | false=>rfl
  | true=>rw [Bg h] at h1; cases h1
 have q2:klt b a=false:=by
  cases h:klt b a with
  | false=>rfl
  | true=>rw [Bg h] at h2; cases h2
 have e:dj a=dj b:=by omega
 clear h1 h2 k1 k2 hb
 cases a with
 | non=>cases b <;> first | rfl | exact absurd e (Nat.ne_of_beq_eq_false rfl)
 | bl p =>
  cases b with
  | bl q=>cases p <;> cases q <;> first | rfl | exact ff q1.symm | exact ff q2.symm
  | _=>exact absurd e (Nat.ne_of_beq_eq_false rfl)
 | int p =>
  cases b with
  | int q=>exact congrArg D.int (Int.le_antisymm (Int.not_lt.mp (of_decide_eq_false q2)) (Int.not_lt.mp (of_decide_eq_false q1)))
  | _=>exact absurd e (Nat.ne_of_beq_eq_false rfl)
 | str p =>
  cases b with
  | str q=>exact congrArg D.str (Hl (of_decide_eq_false q1) (of_decide_eq_false q2))
  | _=>exact absurd e (Nat.ne_of_beq_eq_false rfl)
 | tup _=>exact absurd ha (by show ¬ 4 < 4; decide)
mutual
theorem tW:∀ d:D,dlt d d=false
 | .non=>rfl
 | .bl b=>by cases b <;> rfl
 | .int i=>decide_eq_false (Int.lt_irrefl i)
 | .str x=>decide_eq_false (List.lt_irrefl _)
 | .tup xs=>vH xs
theorem vH:∀ ds:List D,ur ds ds=false
 | []=>rfl
 | d :: ds=>by rw [qF,if_pos (lY d)]; exact vH ds
end
mutual
theorem mZ:∀ a b:D,dlt a b=false→dlt b a=false→a=b
 | .non,b,h1,h2=>Iv b (by show 0 < 4; decide) h1 h2
 | .bl x,b,h1,h2=>Iv b (by show 1 < 4; decide) h1 h2
 | .int x,b,h1,h2=>Iv b (by show 2 < 4; decide) h1 h2
 | .str x,b,h1,h2=>Iv b (by show 3 < 4; decide) h1 h2
 | .tup xs,b,h1,h2=>by
  by_cases hb:dj b < 4
  ·exact (Iv (.tup xs) hb h2 h1).symm
  ·obtain ⟨ys,rfl⟩:=Eh hb
   exact congrArg D.tup (vM xs ys h1 h2)
theorem vM:∀ a b:List D,ur a b=false→ur b a=false→a=b
 | [],[],_,_=>rfl
 | [],_ :: _,h1,_=>ff h1.symm
 | _ :: _,[],_,h2=>ff h2.symm
 | x :: xs,y :: ys,h1,h2=>by
  rw [qF] at h1 h2
  cases he:eqD x y with
  | true =>
   have e:=gF he
   subst e
   rw [if_pos he] at h1 h2
   rw [vM xs ys h1 h2]
  | false =>
   rw [if_neg (fun z=>kZ he (gF z))] at h1
   rw [if_neg (fun z=>kZ he (gF z).symm)] at h2
   exact absurd (mZ x y h1 h2) (kZ he)
end
mutual
theorem zJ:∀ a b c:D,dlt a b=true→dlt b c=true→dlt a c=true
 | .non,b,c,h1,h2=>tr0 (by show 0 < 4; decide) h1 h2
 | .bl x,b,c,h1,h2=>tr0 (by show 1 < 4; decide) h1 h2
 | .int x,b,c,h1,h2=>tr0 (by show 2 < 4; decide) h1 h2
 | .str x,b,c,h1,h2=>tr0 (by show 3 < 4; decide) h1 h2
 | .tup xs,b,c,h1,h2=>by
  obtain ⟨ys,rfl,q1⟩:=Az h1
  obtain ⟨zs,rfl,q2⟩:=Az h2
  exact xP xs ys zs q1 q2
theorem xP:∀ a b c:List D,ur a b=true→ur b c=true→ur a c=true
 | [],[],_,h1,_=>ff h1
 | [],_ :: _,[],_,h2=>ff h2
 | [],_ :: _,_ :: _,_,_=>rfl
 | _ :: _,[],_,h1,_=>ff h1
 | _ :: _,_ :: _,[],_,h2=>ff h2
 | x :: xs,y :: ys,z :: zs,h1,h2=>by
  rw [qF] at h1 h2 ⊢
  cases hxy:eqD x y with
  | true =>
   have e:=gF hxy
   subst e
   rw [if_pos hxy] at h1
   cases hxz:eqD x z with
   | true =>
    rw [if_pos hxz] at h2
    rw [if_pos rfl]
    exact xP xs ys zs h1 h2
   | false =>
    rw [if_neg (fun z=>kZ hxz (gF z))] at h2
    rw [if_neg Bool.false_ne_true]
    exact h2
  | false =>
   rw [if_neg (fun z=>kZ hxy (gF z))] at h1
   cases hyz:eqD y z with
   | true =>
    have e:=gF hyz
    subst e
    rw [if_neg (fun z=>kZ hxy (gF z))]
    exact h1
   | false =>
    rw [if_neg (fun z=>kZ hyz (gF z))] at h2
    have g:=zJ x y z h1 h2
    rw [if_neg]
    ·exact g
    ·intro z'
     have e:=gF z'
     subst e
     rw [tW] at g
     cases g
end
noncomputable def Ln:KeyOrd where
 α:=D
 blt:=dlt
 irrefl:=tW
 trans:=zJ
 negTrans:=fun a b c h=>by
  cases h1:dlt a b with
  | true=>exact .inl rfl
  | false =>
   cases h2:dlt b a with
   | true=>exact .inr (zJ b a c h2 h)
   | false =>
    have e:=mZ a b h1 h2
    subst e
    exact .inr h
 total:=mZ
end L2
set_option maxHeartbeats 200000
namespace L2
open PySem PySem.Spec PyProof.Rows
def UpD (ds:List D):Prop:=ds.Pairwise fun a b=>dlt b a=false
mutual
def Sim:D→D→Prop
 | .int _=>fun e=>match e with | .int _=>True | _=>False
 | .str _=>fun e=>match e with | .str _=>True | _=>False
 | .tup xs=>fun e=>match e with | .tup ys=>qK xs ys | _=>False
 | _=>fun _=>False
def qK:List D→List D→Prop
 | []=>fun _=>True
 | x :: xs=>fun ys=>match ys with | []=>True | y :: ys=>Sim x y∧qK xs ys
end
theorem oX {xs ys:List D} (h:qK xs ys):Sim (.tup xs) (.tup ys):=h
theorem qN {xs ys:List D} (h:Sim (.tup xs) (.tup ys)):qK xs ys:=h
theorem eX {x y:D} {xs ys:List D} (h:Sim x y) (k:qK xs ys):qK (x :: xs) (y :: ys):=⟨h,k⟩
theorem pF {x y:D} {xs ys:List D} (h:qK (x :: xs) (y :: ys)):Sim x y∧qK xs ys:=h
theorem rQ (ys:List D):qK [] ys:=trivial
theorem Jl (xs:List D):qK xs []:=by cases xs <;> exact trivial
theorem qK.at_:∀ {xs ys:List D} {i:Nat} {x y:D},qK xs ys→xs[i]?=some x→ys[i]?=some y→Sim x y
 | [],_,i,x,y,_,hx,_=>by simp at hx
 | _ :: _,[],i,x,y,_,_,hy=>by simp at hy
 | a :: xs,b :: ys,0,x,y,h,hx,hy=>by
  simp at hx hy
  subst hx; subst hy
  exact (pF h).1
 | a :: xs,b :: ys,i+1,x,y,h,hx,hy=>by
  exact qK.at_ (i:=i) (pF h).2 (by simpa using hx) (by simpa using hy)
mutual
theorem Den.det {H:Hp}:∀ {d e:D} {v:V},Den H v d→Den H v e→d=e
 | .non,e,v,h1,h2=>by
  have:v=.non:=h1
  subst this
  cases e with
  | non=>rfl
  | tup ds=>obtain ⟨p,vs,z,_⟩:=aQ h2; cases z
  | bl b=>exact absurd (show V.non=.bl b from h2) (fun z=>nomatch z)
  | int b=>exact absurd (show V.non=.int b from h2) (fun z=>nomatch z)
  | str b=>exact absurd (show V.non=.str b from h2) (fun z=>nomatch z)
 | .bl b,e,v,h1,h2=>by
  have:v=.bl b:=h1
  subst this
  cases e with
  | bl c=>have z:V.bl b=.bl c:=h2; cases z; rfl
  | tup ds=>obtain ⟨p,vs,z,_⟩:=aQ h2; cases z
  | non=>exact absurd (show V.bl b=.non from h2) (fun z=>nomatch z)
  | int c=>exact absurd (show V.bl b=.int c from h2) (fun z=>nomatch z)
  | str c=>exact absurd (show V.bl b=.str c from h2) (fun z=>nomatch z)
 | .int b,e,v,h1,h2=>by
  have:v=.int b:=h1
  subst this
  cases e with
  | int c=>have z:V.int b=.int c:=h2; cases z; rfl
  | tup ds=>obtain ⟨p,vs,z,_⟩:=aQ h2; cases z
  | non=>exact absurd (show V.int b=.non from h2) (fun z=>nomatch z)
  | bl c=>exact absurd (show V.int b=.bl c from h2) (fun z=>nomatch z)
  | str c=>exact absurd (show V.int b=.str c from h2) (fun z=>nomatch z)
 | .str b,e,v,h1,h2=>by
  have:v=.str b:=h1
  subst this
  cases e with
  | str c=>have z:V.str b=.str c:=h2; cases z; rfl
  | tup ds=>obtain ⟨p,vs,z,_⟩:=aQ h2; cases z
  | non=>exact absurd (show V.str b=.non from h2) (fun z=>nomatch z)
  | bl c=>exact absurd (show V.str b=.bl c from h2) (fun z=>nomatch z)
  | int c=>exact absurd (show V.str b=.int c from h2) (fun z=>nomatch z)
 | .tup ds,e,v,h1,h2=>by
  obtain ⟨p,vs,rfl,hp,hd⟩:=aQ h1
  cases e with
  | tup es =>
   obtain ⟨q,us,z,hq,he⟩:=aQ h2
   cases z
   rw [hp] at hq
   cases hq
   rw [cg.det hd he]
  | non=>exact absurd (show V.ref p=.non from h2) (fun z=>nomatch z)
  | bl c=>exact absurd (show V.ref p=.bl c from h2) (fun z=>nomatch z)
  | int c=>exact absurd (show V.ref p=.int c from h2) (fun z=>nomatch z)
  | str c=>exact absurd (show V.ref p=.str c from h2) (fun z=>nomatch z)
theorem cg.det {H:Hp}:∀ {ds es:List D} {vs:List V},cg H vs ds→cg H vs es→ds=es
 | [],[],_,_,_=>rfl
 | [],_ :: _,[],_,h=>h.elim
 | [],_ :: _,_ :: _,h,_=>h.elim
 | _ :: _,[],[],h,_=>h.elim
 | _ :: _,[],_ :: _,_,h=>h.elim
 | _ :: _,_ :: _,[],h,_=>h.elim
 | d :: ds,e :: es,v :: vs,h1,h2=>by rw [Den.det h1.1 h2.1,cg.det h1.2 h2.2]
end
open SeqAt (nD)
theorem vd (e f:Nat→Bool) (fin:Bool):∀ r:List Nat,nD e f fin (r.map Nat.succ)=nD (fun i=>e (i+1)) (fun i=>f (i+1)) fin r
 | []=>rfl
 | i :: r=>by
  show (if e (i+1)=true then nD e f fin (r.map Nat.succ) else f (i+1))=_
  rw [vd e f fin r]
  rfl
theorem qI:∀ xs ys:List D,nD (fun j=>eqD (xs.getD j .non) (ys.getD j .non)) (fun j=>dlt (xs.getD j .non) (ys.getD j .non)) (decide (xs.length < ys.length)) (List.range (min xs.length ys.length))=ur xs ys
 | [],[]=>rfl
 | [],y :: ys=>by rw [Hg]; simp [nD]
 | x :: xs,[]=>by rw [Fz]; simp [nD]
 | x :: xs,y :: ys=>by
  have ih:=qI xs ys
  rw [qF,show min (x :: xs).length (y :: ys).length=min xs.length ys.length+1 by simp only [List.length_cons]; omega,List.range_succ_eq_map]
  show (if eqD x y=true then nD _ _ _ ((List.range (min xs.length ys.length)).map Nat.succ) else dlt x y)=_
  rw [vd]
  have ed:decide ((x :: xs).length < (y :: ys).length)=decide (xs.length < ys.length):=by simp
  rw [ed]
  cases he:eqD x y with
  | true =>
   rw [if_pos rfl,if_pos rfl]
   simpa using ih
  | false =>
   rw [if_neg (by simp),if_neg (by simp)]
theorem allR_eq:∀ xs ys:List D,((List.range (min xs.length ys.length)).all (fun j=>eqD (xs.getD j .non) (ys.getD j .non)) && xs.length == ys.length)=eqD (.tup xs) (.tup ys):=by
 intro xs ys
 rw [Bool.eq_iff_iff,gn]
 constructor
 ·intro h
  simp only [Bool.and_eq_true,List.all_eq_true,List.mem_range,beq_iff_eq] at h
  obtain ⟨h1,h2⟩:=h
  congr 1
  apply List.ext_getElem h2
  intro i a b
  have:=gn.mp (h1 i (by omega))
  simpa [List.getD_eq_getElem?_getD,a,b] using this
 ·intro h
  injection h with h
  subst h
  simp [gn]
end L2
namespace L2
open PySem PySem.Spec PyProof.Rows
section
variable {X:Cx} {pins:List (Addr × Obj)} {σ:St} {H:Hp} {s:Shared}
theorem lX {h h':Heap} {a:Addr} {its:Array Value} (k:SO.Keeps h h') (t:h.IsTuple a its):h'.IsTuple a its:=by
 obtain ⟨o,e,r⟩:=t
 exact ⟨o,k _ _ e,r⟩
theorem yU {s':Shared} {i j:Int} {A:Around} {x y:V} {v u:Value} (hx:Den H x (.int i)) (hy:Den H y (.int j)) (rx:RelV x v) (ry:RelV y u):SeqAt.EqAt A s' v u (eqD (.int i) (.int j)):=by
 have e1:x=.int i:=hx
 have e2:y=.int j:=hy
 subst e1
 subst e2
 obtain ⟨t,rfl⟩:=rx
 obtain ⟨t',rfl⟩:=ry
 have key:=SeqAt.EqAt.int_int (A:=A) (s:=s') i t j t'
 have e:(i == j)=eqD (.int i) (.int j):=by
  rw [Bool.eq_iff_iff,gn,beq_iff_eq]
  exact ⟨fun z=>by rw [z],fun z=>by injection z⟩
 rw [← e]
 exact key
theorem xZ {s':Shared} {i j:Str} {A:Around} {x y:V} {v u:Value} (hx:Den H x (.str i)) (hy:Den H y (.str j)) (rx:RelV x v) (ry:RelV y u):SeqAt.EqAt A s' v u (eqD (.str i) (.str j)):=by
 have e1:x=.str i:=hx
 have e2:y=.str j:=hy
 subst e1
 subst e2
 obtain ⟨t,rfl⟩:=rx
 obtain ⟨t',rfl⟩:=ry
 have key:=SeqAt.EqAt.str_str (A:=A) (s:=s') i t j t'
 have e:(i == j)=eqD (.str i) (.str j):=by
  rw [Bool.eq_iff_iff,gn,beq_iff_eq]
  exact ⟨fun z=>by rw [z],fun z=>by injection z⟩
 rw [← e]
 exact key
theorem zZ {s':Shared} {i j:Int} {A:Around} {x y:V} {v u:Value} (hx:Den H x (.int i)) (hy:Den H y (.int j)) (rx:RelV x v) (ry:RelV y u):SeqAt.vZ A s' v u (dlt (.int i) (.int j)):=by
 have e1:x=.int i:=hx
 have e2:y=.int j:=hy
 subst e1
 subst e2
 obtain ⟨t,rfl⟩:=rx
 obtain ⟨t',rfl⟩:=ry
 intro prog w E Q h
 rw [Bk] at h
 exact PyProof.Rows.lt_int h
theorem zX {s':Shared} {i j:Str} {A:Around} {x y:V} {v u:Value} (hx:Den H x (.str i)) (hy:Den H y (.str j)) (rx:RelV x v) (ry:RelV y u):SeqAt.vZ A s' v u (dlt (.str i) (.str j)):=by
 have e1:x=.str i:=hx
 have e2:y=.str j:=hy
 subst e1
 subst e2
 obtain ⟨t,rfl⟩:=rx
 obtain ⟨t',rfl⟩:=ry
 intro prog w E Q h
 rw [yX] at h
 exact PyProof.Rows.lt_str h
def LK (H:Hp) (s':Shared) (n:Nat):Prop :=
 ∀ (d e:D) (A:Around) (x y:V) (v u:Value),fH n d→fH n e→Sim d e→Den H x d→Den H y e→RelV x v→RelV y u→A.units+n < cLine→SeqAt.EqAt A s' v u (eqD d e)∧SeqAt.vZ A s' v u (dlt d e)
theorem Bx (I:Inv X pins σ H s) {s':Shared} (kp:SO.Keeps s.heap s'.heap) {n:Nat} (ih:LK H s' n) {ds es:List D} {A:Around} {x y:V} {v u:Value} (hs:fH (n+1) (.tup ds)) (hs2:fH (n+1) (.tup es))
  (hm:Sim (.tup ds) (.tup es)) (hx:Den H x (.tup ds)) (hy:Den H y (.tup es)) (rx:RelV x v) (ry:RelV y u) (hu:A.units+(n+1) < cLine):SeqAt.EqAt A s' v u (eqD (.tup ds) (.tup es))∧SeqAt.vZ A s' v u (dlt (.tup ds) (.tup es)):=by
 obtain ⟨a,vs,rfl,ha,hda⟩:=aQ hx
 obtain ⟨b,us,rfl,hb,hdb⟩:=aQ hy
 cases rx
 cases ry
 obtain ⟨its,r1,p1,_⟩:=I.tuple (SqT.of (K:=X.K) ha)
 obtain ⟨its2,r2,p2,_⟩:=I.tuple (SqT.of (K:=X.K) hb)
 have l1:=hda.len
 have l2:=hdb.len
 have m1:=r1.length
 have m2:=r2.length
 replace hm:=qN hm
 have both:∀ j (h1:j < its.toArray.size) (h2:j < its2.toArray.size),SeqAt.EqAt A.in1 s' its.toArray[j] its2.toArray[j] (eqD (ds.getD j .non) (es.getD j .non))∧SeqAt.vZ A.in1 s' its.toArray[j] its2.toArray[j] (dlt (ds.getD j .non) (es.getD j .non)):=by
  intro j h1 h2
  have hj1:j < vs.length:=by simpa [m1] using h1
  have hj2:j < us.length:=by simpa [m2] using h2
  obtain ⟨d1,g1,b1⟩:=hda.at_ (List.getElem?_eq_getElem hj1)
  obtain ⟨d2,g2,b2⟩:=hdb.at_ (List.getElem?_eq_getElem hj2)
  obtain ⟨w1,hw1,rw1⟩:=r1.get (List.getElem?_eq_getElem hj1)
  obtain ⟨w2,hw2,rw2⟩:=r2.get (List.getElem?_eq_getElem hj2)
  have q1:its.toArray[j]=w1:=by
   have:=(List.getElem?_eq_some_iff.mp hw1).2
   simpa using this
  have q2:its2.toArray[j]=w2:=by
   have:=(List.getElem?_eq_some_iff.mp hw2).2
   simpa using this
  rw [q1,q2]
  rw [List.getD_eq_getElem?_getD,List.getD_eq_getElem?_getD,g1,g2]
  have s1:=(hs.2 ds rfl).2 d1 (List.mem_of_getElem? g1)
  have s2:=(hs2.2 es rfl).2 d2 (List.mem_of_getElem? g2)
  exact ih d1 d2 A.in1 _ _ _ _ s1 s2 (hm.at_ g1 g2) b1 b2 rw1 rw2 (by first | (simp only [Around.in1]; omega) | omega)
 constructor
 ·by_cases hab:a=b
  ·subst hab
   have e:=Den.det hx hy
   rw [gn.mpr e]
   exact SeqAt.EqAt.same _
  ·have key:=SeqAt.EqAt.of_refs hab (SeqAt.RcAt.tuples (A:=A) (s:=s') (e:=fun j=>eqD (ds.getD j .non) (es.getD j .non)) (lX kp p1) (lX kp p2) (by omega) fun j h1 h2=>(both j h1 h2).1)
   have q:=allR_eq ds es
   rw [show ds.length=its.toArray.size by simp; omega,show es.length=its2.toArray.size by simp; omega] at q
   rw [q] at key
   exact key
 ·have key:=SeqAt.vZ.tuples (A:=A) (s:=s') (e:=fun j=>eqD (ds.getD j .non) (es.getD j .non)) (f:=fun j=>dlt (ds.getD j .non) (es.getD j .non)) (lX kp p1) (lX kp p2) (by omega)
   (fun j h1 h2=>(both j h1 h2).1) (fun j h1 h2 _=>(both j h1 h2).2)
  have q:=qI ds es
  rw [show ds.length=its.toArray.size by simp; omega,show es.length=its2.toArray.size by simp; omega] at q
  rw [q] at key
  rw [Ep]
  exact key
theorem iI {P:D→D→Prop} (hi:∀ i j,P (.int i) (.int j)) (hs:∀ i j,P (.str i) (.str j)) (ht:∀ xs ys,qK xs ys→P (.tup xs) (.tup ys)):∀ {d e:D},Sim d e→P d e:=by
 intro d e h
 cases d <;> cases e <;> first | exact hi _ _ | exact hs _ _ | exact ht _ _ (qN h) | exact False.elim h
theorem Km (I:Inv X pins σ H s) {s':Shared} (kp:SO.Keeps s.heap s'.heap):∀ n:Nat,LK H s' n:=by
 intro n
 induction n with
 | zero =>
  intro d e A x y v u hs hs2 hm
  revert hs hs2
  refine iI (P:=fun d e=>fH 0 d→fH 0 e→Den H x d→Den H y e→RelV x v→RelV y u→A.units+0 < cLine→SeqAt.EqAt A s' v u (eqD d e)∧SeqAt.vZ A s' v u (dlt d e)) ?_ ?_ ?_ hm
  ·exact fun i j _ _ hx hy rx ry _=>⟨yU hx hy rx ry,zZ hx hy rx ry⟩
  ·exact fun i j _ _ hx hy rx ry _=>⟨xZ hx hy rx ry,zX hx hy rx ry⟩
  ·exact fun xs ys _ hs _ _ _ _ _ _=>absurd rfl (hs.2 xs)
 | succ n ih =>
  intro d e A x y v u hs hs2 hm
  revert hs hs2
  refine iI (P:=fun d e=>fH (n+1) d→fH (n+1) e→Den H x d→Den H y e→RelV x v→RelV y u→A.units+(n+1) < cLine→SeqAt.EqAt A s' v u (eqD d e)∧SeqAt.vZ A s' v u (dlt d e)) ?_ ?_ ?_ hm
  ·exact fun i j _ _ hx hy rx ry _=>⟨yU hx hy rx ry,zZ hx hy rx ry⟩
  ·exact fun i j _ _ hx hy rx ry _=>⟨xZ hx hy rx ry,zX hx hy rx ry⟩
  ·exact fun xs ys hm hs hs2 hx hy rx ry hu=>Bx I kp ih hs hs2 (oX hm) hx hy rx ry hu
end
end L2
set_option maxHeartbeats 400000
namespace SO
open PySem PySem.W PyProof.Rows
section
variable {prog:Program} {w:World} {A:Around} {E:Value→Shared→Prop} {s:Shared}
theorem tO {l:Addr} {c:String} {vs:List Value} {o:Obj} {n:Nat} {Q:List Value→Shared→Prop} (ho:s.heap.get? l=some o) (hc:o.cls=.type c) (hcc:c = "list"∨c = "tuple") (hd:o.data=.seq vs.toArray n)
  (h:Q vs { s with heap:=(s.heap.push (seqObj "list" #[] 0)).update s.heap.objs.size (Obj.mapSeq (· ++ vs.toArray)) }) (hsz:vs.length≤sizeLine) :
  wpAny (model prog w) A (collect (.ref l)) Q E s:=by
 unfold collect
 refine wpAny_bind (wpAny_runValue (codeAny_builtin entry_proto_collect' ?_))
 show wpAny _ _ (do again (.builtin "list.__iadd__" ⟨[← newList [],.ref l],[]⟩)) _ _ s
 refine wpAny_bind (wpAny_newList (wpAny_pure ⟨Code.quiet_builtin _ (by decide +kernel),codeAny_builtin entry_list_iadd' ?_⟩))
 show wpAny _ _ (Builtin.List.listExtendWith (.ref s.heap.objs.size) (.ref l) (.ref s.heap.objs.size)) _ _ { s with heap:=s.heap.push (seqObj "list" #[] 0) }
 unfold Builtin.List.listExtendWith
 have ho':(s.heap.push (seqObj "list" #[] 0)).get? l=some o:=Heap.get?_push_of_some _ ho
 refine wpAny_bind (wpAny_typeOf (T:=c) ⟨o,ho',hc⟩ ?_)
 rw [if_pos (by rcases hcc with rfl | rfl <;> simp)]
 refine wpAny_bind (listItems_at ho' hd ?_)
 refine wpAny_bind (listItems_at (xs:=#[]) (n:=0) (Heap.get?_push_size _ rfl) rfl ?_)
 rw [if_neg (by simp)]
 refine wpAny_bind (listUpdate_at (xs:=#[]) (n:=0) (Heap.get?_push_size _ rfl) rfl ?_ (Nat.zero_le _) (by show (#[]++vs.toArray).size≤sizeLine+1; simp only [Array.size_append,List.size_toArray,List.length_nil]; omega))
 refine wpAny_pure ?_
 show wpAny (model prog w) A (do
   let o ← load s.heap.objs.size
   match o.data with
   | .seq xs _=>pure xs.toList
   | _=>unsupported "internal:collect") Q E { s with heap:=(s.heap.push (seqObj "list" #[] 0)).update s.heap.objs.size (Obj.mapSeq (· ++ vs.toArray)) }
 refine wpAny_bind (wpAny_load (get?_update_seq (Heap.get?_push_size _ rfl) _) ?_)
 show wpAny _ _ (pure ((#[]:Array Value)++vs.toArray).toList) Q E _
 rw [show ((#[]:Array Value)++vs.toArray).toList=vs by simp]
 exact wpAny_pure h
theorem DN {b fin:Bool} {Q:Bool→Shared→Prop} {e f:Nat→Bool}:∀ (l:List (Value × Value)) (i:Nat),(∀ j p q,l[j]?=some (p,q)→SeqAt.EqAt A s p q (e (i+j))) →
  (∀ j p q,l[j]?=some (p,q)→e (i+j)=false→∀ (Q:Bool→Shared→Prop) (E:Value→Shared→Prop),Q (f (i+j)) s→wpAny (model prog w) A (oneLt' (b && (i+j) == 0) p q) Q E s) →
  Q (SeqAt.nD e f fin (List.range' i l.length)) s→KatLex prog w A b fin Q l i s
 | [],i,_,_,h=>kat_nil h
 | (p,q) :: l,i,he,hf,h=>by
  refine kat_cons ((he 0 p q rfl) prog w _ _ ?_)
  rw [Nat.add_zero]
  have h':Q (if e i=true then SeqAt.nD e f fin (List.range' (i+1) l.length) else f i) s:=h
  cases hy:e i with
  | true =>
   rw [hy,if_pos rfl] at h'
   exact kat_yes (DN l (i+1) (fun j p q z=>by rw [show i+1+j=i+(j+1) by omega]; exact he (j+1) p q (by simpa using z)) (fun j p q z=>by rw [show i+1+j=i+(j+1) by omega]; exact hf (j+1) p q (by simpa using z)) h')
  | false =>
   rw [hy,if_neg (by simp)] at h'
   exact kat_no (by have:=hf 0 p q rfl (by simpa using hy) Q (fun _ _=>False) (by simpa using h'); simpa using this)
end
end SO
namespace L2
open PySem PySem.Spec PyProof.Rows
open SeqAt (nD)
def Hom (ds:List D):Prop:=(∀ a∈ds,∀ b∈ds,Sim a b)∧((∀ d∈ds,∃ i,d=.int i)∨(∀ d∈ds,∃ x,d=.str x)∨(∀ d∈ds,∃ e r,d=.tup (e :: r)))
def JR (K:PySem.W.Frag):List V→Hp→VK→Prop:=fun xs H Q=>∃ (p:Addr) (vs:List V) (ds:List D),xs=[.ref p]∧(SqL K H p vs∨SqT K H p vs)∧cg H vs ds∧Hom ds∧ds.length < 64∧(∀ d∈ds,fH 50 d) ∧
 ∀ (l:Addr) (us:List V) (ds':List D),H l=none→ds'.Perm ds→UpD ds'→cg H us ds'→Q (.ref l) (upd H l (.lst us))
theorem vm {H:Hp} {vs:List V} {ds:List D} (h:cg H vs ds):∀ l:List Nat,(∀ i∈l,i < ds.length)→cg H (l.map fun i=>vs.getD i .non) (l.map fun i=>ds.getD i .non)
 | [],_=>trivial
 | i :: l,hl=>by
  refine ⟨?_,vm h l fun j hj=>hl j (.tail _ hj)⟩
  have hi:i < vs.length:=by rw [h.len]; exact hl i (.head _)
  obtain ⟨d,hd,r⟩:=h.at_ (List.getElem?_eq_getElem hi)
  dsimp only
  rw [List.getD_eq_getElem?_getD,List.getD_eq_getElem?_getD,hd,List.getElem?_eq_getElem hi]
  exact r
theorem vO {vs:List V} {its:List Value} (h:Vals vs its):∀ l:List Nat,(∀ i∈l,i < vs.length)→Vals (l.map fun i=>vs.getD i .non) (l.map fun i=>its.getD i Value.none)
 | [],_=>.nil
 | i :: l,hl=>by
  refine .cons ?_ (vO h l fun j hj=>hl j (.tail _ hj))
  have hi:i < vs.length:=hl i (.head _)
  obtain ⟨d,hd,r⟩:=h.get (List.getElem?_eq_getElem hi)
  dsimp only
  rw [List.getD_eq_getElem?_getD,List.getD_eq_getElem?_getD,hd,List.getElem?_eq_getElem hi]
  exact r
section
variable {X:Cx} {pins:List (Addr × Obj)} {σ:St} {H:Hp} {s:Shared}
theorem at3 {vs:List V} {ds:List D} {its:List Value} (hd:cg H vs ds) (r:Vals vs its) {i:Nat} (hi:i < ds.length):∃ (x:V) (v:Value),vs[i]?=some x∧its[i]?=some v∧its.getD i Value.none=v∧Den H x (ds.getD i .non)∧RelV x v∧ds.getD i .non∈ds:=by
 have hv:i < vs.length:=by rw [hd.len]; exact hi
 obtain ⟨d,g,b⟩:=hd.at_ (List.getElem?_eq_getElem hv)
 obtain ⟨u,hu,ru⟩:=r.get (List.getElem?_eq_getElem hv)
 have e:ds.getD i .non=d:=by rw [List.getD_eq_getElem?_getD,g]; rfl
 rw [e]
 exact ⟨_,u,List.getElem?_eq_getElem hv,hu,by rw [List.getD_eq_getElem?_getD,hu]; rfl,b,ru,List.mem_of_getElem? g⟩
theorem yN {s':Shared} {prog:Program} {w:World} {A:Around} {v u:Value} {b:Bool} (h:SeqAt.vZ A s' v u b) (Q:Bool→Shared→Prop) (E:Value→Shared→Prop) (q:Q b s'):wpAny (model prog w) A (oneLt' false v u) Q E s' :=
 PySem.W.kat_one v u (h prog w E _ q)
theorem uT {s':Shared} {prog:Program} {w:World} {A:Around} {x y:V} {d e:D} {v u:Value} (hm:Sim d e) (hd:Den H x d) (he:Den H y e) (rx:RelV x v) (ry:RelV y u) (nt:∀ ds,d≠.tup ds) (Q:Bool→Shared→Prop) (E:Value→Shared→Prop) (q:Q (dlt d e) s') :
  wpAny (model prog w) A (oneLt' true v u) Q E s':=by
 revert hd he nt q
 refine iI (P:=fun d e=>Den H x d→Den H y e→(∀ ds,d≠.tup ds)→Q (dlt d e) s'→wpAny (model prog w) A (oneLt' true v u) Q E s') ?_ ?_ ?_ hm
 ·intro i j hx hy _ q
  have e1:x=.int i:=hx
  have e2:y=.int j:=hy
  subst e1
  subst e2
  obtain ⟨t,rfl⟩:=rx
  obtain ⟨t',rfl⟩:=ry
  rw [Bk] at q
  exact oneLt_int q
 ·intro i j hx hy _ q
  have e1:x=.str i:=hx
  have e2:y=.str j:=hy
  subst e1
  subst e2
  obtain ⟨t,rfl⟩:=rx
  obtain ⟨t',rfl⟩:=ry
  rw [yX] at q
  exact oneLt_str q
 ·intro xs ys _ _ _ nt _
  exact absurd rfl (nt xs)
theorem Bu {M:Model} {x:V} {v:Value} {d:D} (I:Inv X pins σ H s) {h':Heap} (kp:SO.Keeps s.heap h') (hd:Den H x d) (rx:RelV x v):(∀ i,d=.int i→PySem.W.Looks M h' (typeOf v) (.type "int"))∧(∀ i,d=.str i→PySem.W.Looks M h' (typeOf v) (.type "str")) ∧
  (∀ ds,d=.tup ds→PySem.W.Looks M h' (typeOf v) (.type "tuple")):=by
 refine ⟨fun i e=>?_,fun i e=>?_,fun ds e=>?_⟩
 ·subst e
  have e1:x=.int i:=hd
  subst e1
  obtain ⟨t,rfl⟩:=rx
  exact PySem.W.Looks.of_pure rfl
 ·subst e
  have e1:x=.str i:=hd
  subst e1
  obtain ⟨t,rfl⟩:=rx
  exact PySem.W.Looks.of_pure rfl
 ·subst e
  obtain ⟨a,vs,rfl,ha,hda⟩:=aQ hd
  cases rx
  obtain ⟨its,r1,⟨o,eo,ec,_⟩,_⟩:=I.tuple (SqT.of (K:=X.K) ha)
  rw [← ec]
  exact (PySem.W.Looks.ld (kp _ _ eo)).andThen .now
def tyD:D→Value
 | .int _=>.type "int"
 | .str _=>.type "str"
 | _=>.type "tuple"
theorem Hi {d e:D} (h:Sim d e):tyD d=tyD e:=iI (P:=fun d e=>tyD d=tyD e) (fun _ _=>rfl) (fun _ _=>rfl) (fun _ _ _=>rfl) h
theorem BP (d:D):(tyD d == tyD d)=true:=by cases d <;> rfl
theorem Hs {d e:D} (hm:Sim d e) (h:(tyD d != .type "tuple")=true):∀ ds,d≠.tup ds:=by
 intro ds z
 subst z
 exact absurd (show (Value.type "tuple" != Value.type "tuple")=true from h) (by decide)
theorem u5 {M:Model} {x:V} {v:Value} {d e:D} (I:Inv X pins σ H s) {h':Heap} (kp:SO.Keeps s.heap h') (hm:Sim d e) (hd:Den H x d) (rx:RelV x v):PySem.W.Looks M h' (typeOf v) (tyD d):=by
 obtain ⟨a,b,c⟩:=Bu (M:=M) I kp hd rx
 revert a b c
 exact iI (P:=fun d e=>(∀ i,d=.int i→PySem.W.Looks M h' (typeOf v) (.type "int"))→(∀ i,d=.str i→PySem.W.Looks M h' (typeOf v) (.type "str"))→(∀ ds,d=.tup ds→PySem.W.Looks M h' (typeOf v) (.type "tuple"))→PySem.W.Looks M h' (typeOf v) (tyD d))
  (fun i _ a _ _=>a i rfl) (fun i _ _ b _=>b i rfl) (fun xs _ _ _ _ c=>c xs rfl) hm
theorem kat_tups (I:Inv X pins σ H s) {h':Heap} (kp:SO.Keeps s.heap h'):∀ {vs:List V} {ds:List D} {its:List Value},cg H vs ds→Vals vs its→(∀ d∈ds,∃ e r,d=.tup (e :: r)) →
  ∃ fs,PySem.W.KatTups h' its fs∧fs.length=its.length∧∀ v∈fs,∃ (x:V) (d:D) (r:List D),Den H x d∧RelV x v∧D.tup (d :: r)∈ds
 | [],[],_,_,.nil,_=>⟨[],trivial,rfl,fun v hv=>by cases hv⟩
 | x :: vs,d :: ds,_,hd,.cons r rr,ht=>by
  obtain ⟨fs,k,l,m⟩:=kat_tups I kp hd.2 rr fun d hd=>ht d (.tail _ hd)
  obtain ⟨e,r0,rfl⟩:=ht d (.head _)
  obtain ⟨a,ws,rfl,ha,hda⟩:=aQ hd.1
  cases r
  obtain ⟨its1,r1,⟨o,eo,ec,n,ed⟩,_⟩:=I.tuple (SqT.of (K:=X.K) ha)
  match ws,its1,hda,r1,ed with
  | w0 :: ws,_ :: its1,hda,.cons q0 q,ed =>
   refine ⟨_ :: fs,PySem.W.KatTups.cons (kp _ _ eo) ec ed (by simp; rfl) k,by simp [l],fun v hv=>?_⟩
   rcases List.mem_cons.mp hv with rfl | hv
   ·exact ⟨w0,e,r0,hda.1,q0,.head _⟩
   ·obtain ⟨x,d,r,z1,z2,z3⟩:=m v hv
    exact ⟨x,d,r,z1,z2,.tail _ z3⟩
  | [],_,hda,_,_=>exact hda.elim
theorem oG {E:Value→Shared→Prop} (I:Inv X pins σ H s) {a:Addr} {c:String} {o:Obj} {n:Nat} {vs:List V} {ds:List D} {its:List Value} {Q:VK} (κ:SortKind) (ho:s.heap.get? a=some o) (hc:o.cls=.type c) (hcc:c = "list"∨c = "tuple") (hd:o.data=.seq its.toArray n)
  (hD:cg H vs ds) (r:Vals vs its) (h64:ds.length < 64)
  (hk:2≤its.length→∀ h',SO.Keeps s.heap h'→∀ (E:Value→Shared→Prop) (Q:SortKind→Shared→Prop),Q κ { s with heap:=h' }→wpAny (model X.prog X.w) X.A.in1.in1 (keyKind' its.toArray) Q E { s with heap:=h' })
  (hcm:∀ h',SO.Keeps s.heap h'→SO.Cmp (O:=Ln) (fun i=>ds.getD i .non) its.length (PySem.W.kas_ask X.prog X.w X.A.in1.in1 κ its) { s with heap:=h' })
  (q:∀ (l:Addr) (us:List V) (ds':List D),H l=none→ds'.Perm ds→UpD ds'→cg H us ds'→Q (.ref l) (upd H l (.lst us))):wpAny (model X.prog X.w) X.A (call (.builtin "sorted") [.ref a]) (EP X pins σ Q) E s:=by
 have l1:=hD.len
 have l2:=r.length
 have kg:SO.Keeps s.heap ((s.heap.push (seqObj "list" #[] 0)).update s.heap.objs.size (Obj.mapSeq (· ++ its.toArray))):=fun b u e=>by
  rw [Heap.get?_update_ne _ _ _ _ (Nat.ne_of_lt (Heap.lt_size e))]
  exact Heap.get?_push_of_some _ e
 refine SO.zR (O:=Ln) (vs:=its) (fun i=>ds.getD i .non) κ (by omega) kg (fun Q q=>SO.tO ho hc hcc hd q (by rw [sizeLine_eq]; omega)) hk hcm fun g' p kp hp hs hob=>?_
 obtain ⟨m,hob⟩:=hob
 have hlt:∀ i∈p.toList,i < its.length:=fun i hi=>List.mem_range.mp (hp.mem_iff.mp hi)
 have hsz:s.heap.objs.size≤((s.heap.push (seqObj "list" #[] 0)).update s.heap.objs.size (Obj.mapSeq (· ++ its.toArray))).objs.size:=by
  rw [Heap.size_update,size_push']
  exact Nat.le_succ _
 have hps:p.toList.length=its.length:=by simpa using hp.length_eq
 have hU:=vO r p.toList fun i hi=>by rw [l2]; exact hlt i hi
 refine ⟨.ref _,_,I.laid (t':=s.toks) (o:=.lst (p.toList.map fun i=>vs.getD i .non)) kp hsz ⟨?_,_,m,hU,hob⟩,rfl,q _ _ (p.toList.map fun i=>ds.getD i .non) (I.hok.fresh hsz) ?_ ?_ (vm hD _ fun i hi=>by have:=hlt i hi; omega)⟩
 ·rw [List.length_map,sizeLine_eq]
  omega
 ·have e:(List.range its.length).map (fun i=>ds.getD i .non)=ds:=by
   apply List.ext_getElem
   ·simp; omega
   ·intro i h1 h2
    simp [List.getD_eq_getElem?_getD,h2]
  have:=hp.map fun i=>ds.getD i D.non
  rw [e] at this
  exact this
 ·unfold UpD
  rw [List.pairwise_iff_getElem]
  intro i j hi hj hij
  have h:=hs i j (Nat.le_of_lt hij) (by simpa [hps] using hj)
  have e:∀ k (hk:k < p.toList.length),SO.KN (O:=Ln) (fun i=>ds.getD i .non) p k=(p.toList.map fun i=>ds.getD i D.non)[k]'(by rw [List.length_map]; exact hk):=by
   intro k hk
   have hk':k < p.size:=by simpa using hk
   unfold SO.KN
   rw [List.getElem_map]
   congr 1
   simp [Array.getD,hk']
  rw [e i (by simpa using hi),e j (by simpa using hj)] at h
  exact h
theorem gZ (hu:X.A.units+64 < cLine):jt X (.builtin "sorted") (JR X.K):=by
 intro pins s σ H xs us Q I r h
 obtain ⟨a,vs,ds,rfl,hp,hD,hom,h64,hsh,q⟩:=h
 obtain ⟨u,rfl,rx⟩:=vals1 r
 cases rx
 obtain ⟨its,rv,c,o,n,hcc,ho,hc,hd⟩:∃ its:List Value,Vals vs its∧∃ (c:String) (o:Obj) (n:Nat),(c = "list"∨c = "tuple")∧s.heap.get? a=some o∧o.cls=.type c∧o.data=.seq its.toArray n:=by
  rcases hp with hp | hp
  ·obtain ⟨its,rv,pl,_⟩:=I.list hp
   obtain ⟨o,ho,hc,n,hd⟩:=pl.isList
   exact ⟨its,rv, "list",o,n,.inl rfl,ho,hc,hd⟩
  ·obtain ⟨its,rv,⟨o,ho,hc,n,hd⟩,_⟩:=I.tuple hp
   exact ⟨its,rv, "tuple",o,n,.inr rfl,ho,hc,hd⟩
 have l1:=hD.len
 have l2:=rv.length
 have one:(∀ d∈ds,∀ xs,d≠.tup xs)→∀ T,(T != Value.type "tuple")=true→(T == T)=true→(∀ d∈ds,tyD d=T)→wpAny (model X.prog X.w) X.A (call (.builtin "sorted") [.ref a]) (EP X pins σ Q) X.xe s:=by
  intro nt T hT1 hT2 hT
  refine oG I oneType' ho hc hcc hd hD rv h64 (fun h2 h' kp E Q q=>?_) (fun h' kp i j C hi hj q=>?_) q
  ·refine PySem.W.kas_kind h2 (T:=T) (fun v hv=>?_) hT1 hT2 q
   obtain ⟨i,hi,rfl⟩:=List.mem_iff_getElem.mp hv
   obtain ⟨x,v,e1,e2,e3,e4,e5,e6⟩:=at3 (i:=i) hD rv (by omega)
   rw [List.getElem?_eq_getElem hi] at e2
   cases e2
   rw [← hT _ e6]
   exact u5 I kp (hom.1 _ e6 _ e6) e4 e5
  ·obtain ⟨x,v,e1,e2,e3,e4,e5,e6⟩:=at3 (i:=i) hD rv (by omega)
   obtain ⟨y,u,f1,f2,f3,f4,f5,f6⟩:=at3 (i:=j) hD rv (by omega)
   unfold PySem.W.kas_ask
   rw [e3,f3,keyLt'_oneType]
   exact uT (hom.1 _ e6 _ f6) e4 f4 e5 f5 (nt _ e6) _ _ q
 rcases hom.2 with hi | hi | hi
 ·exact one (fun d hd xs e=>by obtain ⟨i,z⟩:=hi d hd; rw [z] at e; cases e) (.type "int") (by decide) (by rfl) (fun d hd=>by obtain ⟨i,z⟩:=hi d hd; rw [z]; rfl)
 ·exact one (fun d hd xs e=>by obtain ⟨i,z⟩:=hi d hd; rw [z] at e; cases e) (.type "str") (by decide) (by rfl) (fun d hd=>by obtain ⟨i,z⟩:=hi d hd; rw [z]; rfl)
 ·obtain ⟨T,hT2,hT⟩:∃ T:Value,(T == T)=true∧∀ d r,D.tup (d :: r)∈ds→tyD d=T∧Sim d d:=by
   cases hds:ds with
   | nil=>exact ⟨.type "int",by rfl,fun d r z=>by cases z⟩
   | cons d0 ds0 =>
    obtain ⟨e0,r0,rfl⟩:=hi d0 (by rw [hds]; exact .head _)
    refine ⟨tyD e0,BP e0,fun d r z=>?_⟩
    have s1:=hom.1 _ (show D.tup (d :: r)∈ds by rw [hds]; exact z) (.tup (e0 :: r0)) (by rw [hds]; exact .head _)
    have s2:=hom.1 _ (show D.tup (d :: r)∈ds by rw [hds]; exact z) (.tup (d :: r)) (by rw [hds]; exact z)
    replace s1:=pF (qN s1)
    replace s2:=pF (qN s2)
    exact ⟨Hi s1.1,s2.1⟩
  refine oG I (tuples' (T != Value.type "tuple")) ho hc hcc hd hD rv h64 (fun h2 h' kp E Q q=>?_) (fun h' kp i j C hi' hj q=>?_) q
  ·obtain ⟨fs,k,l,m⟩:=kat_tups I kp hD rv hi
   refine PySem.W.kat_kind k (by omega) (T:=T) (fun v hv=>?_) hT2 q
   obtain ⟨x,d,r,z1,z2,z3⟩:=m v hv
   obtain ⟨t1,t2⟩:=hT d r z3
   rw [← t1]
   exact u5 I kp t2 z1 z2
  ·obtain ⟨x,v,e1,e2,e3,e4,e5,e6⟩:=at3 (i:=i) hD rv (by omega)
   obtain ⟨y,u,f1,f2,f3,f4,f5,f6⟩:=at3 (i:=j) hD rv (by omega)
   unfold PySem.W.kas_ask
   rw [e3,f3]
   have hq:C (dlt (ds.getD i .non) (ds.getD j .non)) { s with heap:=h' }:=q
   obtain ⟨d1,r1,E1⟩:=hi _ e6
   obtain ⟨d2,r2,E2⟩:=hi _ f6
   have sh1:=hsh _ e6
   have sh2:=hsh _ f6
   have sm:=hom.1 _ e6 _ f6
   rw [E1] at e4 e6 hq sh1 sm
   rw [E2] at f4 f6 hq sh2 sm
   obtain ⟨a1,w1,rfl,ha1,hda1⟩:=aQ e4
   obtain ⟨a2,w2,rfl,ha2,hda2⟩:=aQ f4
   cases e5
   cases f5
   obtain ⟨its1,v1,⟨o1,eo1,ec1,n1,ed1⟩,_⟩:=I.tuple (SqT.of (K:=X.K) ha1)
   obtain ⟨its2,v2,⟨o2,eo2,ec2,n2,ed2⟩,_⟩:=I.tuple (SqT.of (K:=X.K) ha2)
   have k1:=hda1.len
   have k2:=hda2.len
   have k3:=v1.length
   have k4:=v2.length
   replace sm:=qN sm
   have cm:=Km I (s':={ s with heap:=h' }) kp 49
   have each:∀ (k:Nat) (p q:Value),(its1.zip its2)[k]?=some (p,q)→∃ (x y:V),Den H x ((d1 :: r1).getD k .non)∧Den H y ((d2 :: r2).getD k .non)∧RelV x p∧RelV y q∧Sim ((d1 :: r1).getD k .non) ((d2 :: r2).getD k .non)∧fH 49 ((d1 :: r1).getD k .non)∧fH 49 ((d2 :: r2).getD k .non):=by
    intro k p q hz
    rw [List.getElem?_zip_eq_some] at hz
    have b1:k < its1.length:=(List.getElem?_eq_some_iff.mp hz.1).1
    have b2:k < its2.length:=(List.getElem?_eq_some_iff.mp hz.2).1
    obtain ⟨x1,p1,_,g1,_,g2,g3,g4⟩:=at3 (i:=k) hda1 v1 (by omega)
    obtain ⟨x2,p2,_,g1',_,g2',g3',g4'⟩:=at3 (i:=k) hda2 v2 (by omega)
    rw [hz.1] at g1
    rw [hz.2] at g1'
    cases g1
    cases g1'
    refine ⟨x1,x2,g2,g2',g3,g3',sm.at_ (i:=k) ?_ ?_,(sh1.2 _ rfl).2 _ g4,(sh2.2 _ rfl).2 _ g4'⟩
    ·rw [List.getD_eq_getElem?_getD,List.getElem?_eq_getElem (by omega)]; rfl
    ·rw [List.getD_eq_getElem?_getD,List.getElem?_eq_getElem (by omega)]; rfl
   refine PySem.W.kat_lt (kp _ _ eo1) ed1 (kp _ _ eo2) ed2 (SO.DN (e:=fun k=>eqD ((d1 :: r1).getD k .non) ((d2 :: r2).getD k .non)) (f:=fun k=>dlt ((d1 :: r1).getD k .non) ((d2 :: r2).getD k .non)) _ 0 (fun k p q z=>?_) (fun k p q z _ Q E hq=>?_) ?_)
   ·obtain ⟨x,y,h1,h2,h3,h4,h5,h6,h7⟩:=each k p q z
    rw [Nat.zero_add]
    exact (cm _ _ _ _ _ _ _ h6 h7 h5 h1 h2 h3 h4 (by simp only [Around.in1]; omega)).1
   ·obtain ⟨x,y,h1,h2,h3,h4,h5,h6,h7⟩:=each k p q z
    rw [Nat.zero_add] at hq ⊢
    have lt:=(cm _ _ X.A.in1.in1 _ _ _ _ h6 h7 h5 h1 h2 h3 h4 (by simp only [Around.in1]; omega)).2
    cases hb:(T != Value.type "tuple") && k == 0 with
    | false=>exact yN lt Q E hq
    | true =>
     rw [Bool.and_eq_true,beq_iff_eq] at hb
     obtain ⟨hb,rfl⟩:=hb
     have t1:=hT d1 r1 e6
     exact uT h5 h1 h2 h3 h4 (show ∀ ds,d1≠.tup ds from Hs t1.2 (by rw [t1.1]; exact hb)) Q E hq
   ·have hl:=qI (d1 :: r1) (d2 :: r2)
    have e:List.range' 0 (its1.toArray.toList.zip its2.toArray.toList).length=List.range (min (d1 :: r1).length (d2 :: r2).length):=by
     rw [List.range_eq_range']
     congr 1
     simp only [List.length_zip]
     omega
    have ef:decide (its1.toArray.size < its2.toArray.size)=decide ((d1 :: r1).length < (d2 :: r2).length):=by
     rw [show its1.toArray.size=(d1 :: r1).length by simp at k1 k3 ⊢; omega,show its2.toArray.size=(d2 :: r2).length by simp at k2 k4 ⊢; omega]
    rw [e,ef,hl]
    rw [Ep] at hq
    exact hq
end
end L2
namespace PySem.SeqAt
open AutoSeq1 (wpAny_loadPart')
open MeetsSeq MeetsSeq2 MeetsSeq3 SeqRoads2
end PySem.SeqAt
namespace L2
open PySem PySem.Spec PyProof.Rows
end L2
namespace L2
open PySem PySem.Spec PyProof.Rows
theorem nT (t:List Nat):∀ (k:Nat) (acc:List Nat),List.foldl (fun x1 x2=>x1++x2) acc.toArray (List.replicate k t.toArray)=(acc++(List.replicate k t).flatten).toArray
 | 0,acc=>by simp
 | k+1,acc=>by
  have e:acc.toArray++t.toArray=(acc++t).toArray:=by simp
  have e2:(acc++t)++(List.replicate k t).flatten=acc++(List.replicate (k+1) t).flatten:=by
   rw [List.replicate_succ,List.flatten_cons,List.append_assoc]
  rw [← e2,← nT t k (acc++t),← e,List.replicate_succ,List.foldl_cons]
theorem Gb (n:Nat):(List.replicate n ([]:List Nat)).flatten=[]:=by
 induction n with
 | zero=>rfl
 | succ n ih=>rw [List.replicate_succ,List.flatten_cons,ih]; rfl
theorem Gn (t:List Nat) (n:Nat):Txt.mul ⟨t.toArray⟩ (n:Int)=⟨(List.replicate n t).flatten.toArray⟩:=by
 unfold Txt.mul
 by_cases h1:(n:Int) < 1
 ·rw [if_pos h1]
  have:n=0:=by omega
  subst this
  rfl
 ·rw [if_neg h1]
  by_cases h2:(((n:Int) == 1 || (⟨t.toArray⟩:Str).length == 0)=true)
  ·rw [if_pos h2]
   rw [Bool.or_eq_true,beq_iff_eq,beq_iff_eq] at h2
   rcases h2 with z | z
   ·have:n=1:=by omega
    subst this
    simp
   ·have z':t=[]:=by
     have:t.toArray.size=0:=z
     simpa using this
    subst z'
    rw [Gb]
  ·rw [if_neg h2]
   have:=nT t n []
   simp only [List.nil_append] at this
   rw [← this]
   simp
def Lr:R2:=fun x y H Q=>∃ (t:List Nat) (n:Nat),x=.str ⟨t.toArray⟩∧y=.int (n:Nat)∧n≤100000∧t.length * n≤100000∧Q (.str ⟨(List.replicate n t).flatten.toArray⟩) H
theorem mY {X:Cx}:OpR X (binaryOp .Mult) Lr:=by
 intro pins s σ H x y v u Q I rx ry h
 obtain ⟨t,n,rfl,rfl,hn,hl,q⟩:=h
 obtain ⟨t',rfl⟩:=rx
 obtain ⟨t'',rfl⟩:=ry
 have hlen:(⟨t.toArray⟩:Str).length=t.length:=by show t.toArray.size=_; simp
 refine SB.mul ⟨?_,fun h1 _=>?_,fun h1 _=>?_⟩ fun t3 k=>?_
 ·simp only [Bool.or_eq_false_iff,decide_eq_false_iff_not]
  omega
 ·rw [hlen]
  intro z
  have h0:0 < n:=by omega
  have z2:((2:Int) ^ 63 - 1) / (n:Int) < (t.length:Int):=z
  rw [Int.ediv_lt_iff_lt_mul (by omega)] at z2
  have e:((t.length:Int) * (n:Int))=((t.length * n:Nat):Int):=by push_cast; rfl
  rw [e] at z2
  omega
 ·rw [hlen,Int.toNat_natCast]
  unfold Builtin.Str.tooLong
  exact decide_eq_false (by have:=bR; omega)
 ·rw [Gn]
  exact ⟨.str _,H,I.tok _,⟨_,rfl⟩,q⟩
end L2
namespace L2
open PySem
def ltr (t i:Nat):Nat:=97+(t+i) % 26
def nm0 (t k:Nat):List Nat:=ltr t (k % 26) :: List.replicate (k % 7) (ltr t (k / 26))
def nm1 (t k:Nat):List Nat:=List.replicate (1+k % 8) (ltr t (k / 8))
def nm2 (t a k:Nat):List Nat:=List.replicate a (ltr t 25)++ltr t (k % 20) :: ltr t (k / 20) :: List.replicate (6 - a) (ltr t 25)
theorem pW {t i j:Nat} (hi:i < 26) (hj:j < 26) (h:ltr t i=ltr t j):i=j:=by
 unfold ltr at h
 omega
theorem Gf {t i j:Nat} (hi:i < 70) (hj:j < 70) (h:nm0 t i=nm0 t j):i=j:=by
 have hl:=congrArg List.length h
 unfold nm0 at h hl
 rw [List.length_cons,List.length_cons,List.length_replicate,List.length_replicate] at hl
 have:=pW (Nat.mod_lt _ (by decide)) (Nat.mod_lt _ (by decide)) (List.cons.inj h).1
 omega
theorem Fx {t i j:Nat} (hi:i < 70) (hj:j < 70) (h:nm1 t i=nm1 t j):i=j:=by
 have hl:=congrArg List.length h
 have h0:=congrArg (fun x=>x[0]?) h
 unfold nm1 at h0 hl
 rw [List.length_replicate,List.length_replicate] at hl
 simp only [List.getElem?_replicate] at h0
 rw [if_pos (by omega),if_pos (by omega)] at h0
 have:=pW (by omega) (by omega) (Option.some.inj h0)
 omega
theorem Fo {t a i j:Nat} (hi:i < 70) (hj:j < 70) (h:nm2 t a i=nm2 t a j):i=j:=by
 unfold nm2 at h
 have h':=List.append_cancel_left h
 have h1:=(List.cons.inj h').1
 have h2:=(List.cons.inj (List.cons.inj h').2).1
 have:=pW (by omega) (by omega) h1
 have:=pW (by omega) (by omega) h2
 omega
theorem nu {f:Nat→List Nat} {n:Nat} (h:∀ i j,i < n→j < n→f i=f j→i=j):((List.range n).map f).Nodup:=by
 rw [List.nodup_iff_pairwise_ne,List.pairwise_map]
 refine (List.pairwise_lt_range (n:=n)).imp_of_mem fun {a b} ha hb hab e=>?_
 have:=h a b (List.mem_range.mp ha) (List.mem_range.mp hb) e
 omega
theorem uD {x:List Nat} (h1:1≤x.length) (h2:x.length≤8) (h:∀ c∈x,97≤c∧c≤122):isNm ⟨x.toArray⟩=true:=by
 unfold isNm
 have hl:(⟨x.toArray⟩:Str).length=x.length:=by show x.toArray.size=_; simp
 rw [hl,decide_eq_true h1,decide_eq_true h2]
 simp only [Bool.true_and,List.all_eq_true]
 intro c hc
 exact decide_eq_true (h c (by simpa using hc))
theorem mq (t i:Nat):97≤ltr t i∧ltr t i≤122:=by
 unfold ltr
 omega
theorem IV (t k:Nat):isNm ⟨(nm0 t k).toArray⟩=true:=by
 refine uD (by simp [nm0]) (by simp [nm0]; omega) fun c hc=>?_
 rcases List.mem_cons.mp hc with rfl | hc
 ·exact mq _ _
 ·rw [(List.mem_replicate.mp hc).2]
  exact mq _ _
theorem Jw (t k:Nat):isNm ⟨(nm1 t k).toArray⟩=true:=by
 refine uD (by simp [nm1]) (by simp [nm1]; omega) fun c hc=>?_
 rw [(List.mem_replicate.mp hc).2]
 exact mq _ _
theorem JH {t a:Nat} (k:Nat) (ha:a≤6):isNm ⟨(nm2 t a k).toArray⟩=true:=by
 refine uD (by simp [nm2]; omega) (by simp [nm2]; omega) fun c hc=>?_
 unfold nm2 at hc
 rcases List.mem_append.mp hc with hc | hc
 ·rw [(List.mem_replicate.mp hc).2]
  exact mq _ _
 rcases List.mem_cons.mp hc with rfl | hc
 ·exact mq _ _
 rcases List.mem_cons.mp hc with rfl | hc
 ·exact mq _ _
 rw [(List.mem_replicate.mp hc).2]
 exact mq _ _
structure Aq (xs:List (List Nat)):Prop where
 len:xs.length=70
 nd:xs.Nodup
 nm:∀ x∈xs,isNm ⟨x.toArray⟩=true
theorem Gh {f:Nat→List Nat} (h1:∀ i j,i < 70→j < 70→f i=f j→i=j) (h2:∀ k,isNm ⟨(f k).toArray⟩=true):Aq ((List.range 70).map f) :=
 ⟨by simp,nu h1,fun x hx=>by obtain ⟨k,_,rfl⟩:=List.mem_map.mp hx; exact h2 k⟩
theorem Oe (t:Nat):Aq ((List.range 70).map (nm0 t)):=Gh (fun _ _ hi hj=>Gf hi hj) (IV t)
theorem M5 (t:Nat):Aq ((List.range 70).map (nm1 t)):=Gh (fun _ _ hi hj=>Fx hi hj) (Jw t)
theorem row2 {t a:Nat} (ha:a≤6):Aq ((List.range 70).map (nm2 t a)):=Gh (fun _ _ hi hj=>Fo hi hj) (fun k=>JH k ha)
theorem yE {t i:Nat} (ht:t < 26) (hi:i < 26):((List.range 26).map (97 + ·)).drop t++((List.range 26).map (97 + ·)).take t=(List.range 26).map (ltr t):=by
 apply List.ext_getElem
 ·simp; omega
 ·intro n h1 h2
  simp only [List.length_append,List.length_drop,List.length_take,List.length_map,List.length_range] at h1 h2
  rw [List.getElem_append]
  split
  ·simp [ltr]
   simp at *
   omega
  ·simp [ltr]
   simp at *
   omega
end L2
namespace L2
open PySem PySem.Spec PyProof.Rows
end L2
namespace L2
open PySem PySem.Spec PyProof.Rows
def KTup (K:PySem.W.Frag) (a:Addr) (xs:List V):Prop:=∃ (o:Obj) (its:Array Value) (n:Nat),K.lookup a=some o∧o.cls=.type "tuple"∧o.data=.seq its n∧its.size≤sizeLine∧Vals xs its.toList
theorem KTup.sq {K:PySem.W.Frag} {a:Addr} {xs:List V} {H:Hp} (h:KTup K a xs):SqT K H a xs:=.inr h
theorem stT {K:PySem.W.Frag} {H H':Hp} {a:Addr} {xs:List V} (e:Same H H') (h:SqT K H a xs):SqT K H' a xs:=by
 rcases h with (h | ⟨o,h⟩) | h
 ·exact .inl (.inl (e _ _ h))
 ·exact .inl (.inr ⟨o,e _ _ h⟩)
 ·exact .inr h
def Kv (K:PySem.W.Frag):R2:=fun x y H Q=>∃ (a b:Addr) (xs ys:List V),x=.ref a∧y=.ref b∧SqT K H a xs∧SqT K H b ys∧xs.length+ys.length≤sizeLine∧∀ (q:Addr) (H':Hp),Same H H'→SqT K H' q (xs++ys)→Q (.ref q) H'
theorem vK {X:Cx}:OpR X (binaryOp .Add) (Kv X.K):=by
 intro pins s σ H x y v u Q I rx ry h
 obtain ⟨a,b,xs,ys,rfl,rfl,ha,hb,hz,q⟩:=h
 cases xs with
 | cons x1 xs =>
  refine zK pins s σ H (.ref a) (.ref b) v u Q I rx ry ⟨a,b,_,_,rfl,rfl,ha,hb,by simp,hz,fun z=>?_,fun z p hp=>q p _ (aq hp _) (SqT.of ak)⟩
  refine q a H (Same.refl H) ?_
  rw [z,List.append_nil]
  exact ha
 | nil =>
  cases rx
  cases ry
  obtain ⟨its,r1,p1,_⟩:=I.tuple ha
  obtain ⟨its2,r2,p2,_⟩:=I.tuple hb
  cases r1
  obtain ⟨⟨cls,dd,data,sl⟩,ho,hc,n,hd⟩:=id p1
  obtain ⟨⟨cls2,dd2,data2,sl2⟩,ho2,hc2,n2,hd2⟩:=id p2
  simp only at hc hd hc2 hd2
  subst hc hd hc2 hd2
  refine concat_meets ⟨_,ho,rfl⟩ ⟨_,ho2,rfl⟩ noFill_tuple_add seq_tuple_add PySem.F.slot_tuple_add PySem.F.entry_tuple_add (PySem.F.args_tuple_add_2 _ _) (tuple_addW0 a b _ its2.toArray n n2 dd dd2 sl sl2 rfl) ⟨ho,ho2,?_⟩
  exact ⟨.ref b,H,I,rfl,q b H (Same.refl H) hb⟩
def Iu (K:PySem.W.Frag) (e:Addr):Prop:=∃ e0 e1 e2 e3:Addr,KTup K e [.ref e0,.ref e1,.ref e2,.ref e3]∧KTup K e0 []∧KTup K e1 []∧KTup K e2 []∧KTup K e3 []
end L2
set_option maxHeartbeats 4000000
namespace L2
open PySem PySem.Spec PyProof.Rows
end L2
namespace MN
open PySem
abbrev kwD (d:Value):List (Str × Value):=[(Str.ofString "default",d)]
section
variable {prog:Program} {w:World} {A:Around} {R:Result→Shared→Prop} {It:Addr} {fp wr:List Addr} {n:Nat} {Pr:Nat→Value→Prop} {Sx:Nat→Heap→Prop}
theorem nm:(toString "min" ++ toString ".loop" : String) = "min.loop":=by decide
theorem on (W:Walks prog w A.in1 It fp wr n Pr Sx) (bt:Nat→Nat→Bool) (cm:CmpOf prog w A.in1 .Lt Pr bt) (B:Addr) (nB:B ∉ fp) (d:Value) :
  ∀ (k j:Nat) (s:Shared) (best:Value) (c:Nat),n - (j+1)=k→j+1≤n→Sx (j+1) s.heap→Pr (argBest bt j) best →
  s.heap.get? B=some { cls:=.type "list",dict:=none,data:=.seq #[best,best] c,slots:=#[] } →
  (∀ v h' tk,Pr (argBest bt (n - 1)) v→(∀ b o,b ∉ wr→b≠B→s.heap.get? b=some o→h'.get? b=some o)→R (.ok (.ret v)) { s with heap:=h',toks:=tk }) →
  codeAny (model prog w) A (.builtin "min.loop" ⟨[.ref It,.none,.ref B],kwD d⟩) R s:=by
 have nW:B ∉ wr:=fun z=>nB (W.sub _ z)
 intro k
 induction k with
 | zero =>
  intro j s best c ek ej st pb eB fin
  have en:j+1=n:=by omega
  refine codeAny_builtin PySem.F.entry_min_loop ?_
  rw [Around.under_plainId (PySem.F.plain_min_loop) _]
  show wpAny _ A.in1 (seqItems? (.ref B) >>= _) _ _ s
  refine wpAny_bind (wpAny_seqItems eB rfl ?_)
  show wpAny _ A.in1 (tryCatch (pyNext (.ref It)) _ >>= _) _ _ s
  refine wpAny_bind (wpAny_tryCatch (W.done s _ _ (en ▸ st) fun h' tk kp=>?_))
  have eB':=kp B _ nW eB
  show wpAny _ A.in1 (updateSeq B (fun _=>#[]) >>= _) _ _ _
  refine wpAny_bind ?_
  refine wpAny_updateSeq eB' rfl (wpAny_bind (wpAny_letGo (wpAny_pure ?_)))
  exact fin best _ tk (by rw [← en]; exact pb) fun b o nb nS e=>(Heap.get?_update_other _ _ (Ne.symm nS)).trans (kp b o nb e)
 | succ k ih =>
  intro j s best c ek ej st pb eB fin
  have lt:j+1 < n:=by omega
  refine codeAny_builtin PySem.F.entry_min_loop ?_
  rw [Around.under_plainId (PySem.F.plain_min_loop) _]
  show wpAny _ A.in1 (seqItems? (.ref B) >>= _) _ _ s
  refine wpAny_bind (wpAny_seqItems eB rfl ?_)
  show wpAny _ A.in1 (tryCatch (pyNext (.ref It)) _ >>= _) _ _ s
  refine wpAny_bind (wpAny_tryCatch (W.item (j+1) s _ _ lt st fun v h' tk pv st' kp=>?_))
  have eB':=kp B _ nW eB
  show wpAny _ A.in1 (tryCatch (holding [v,v] (richCompare .Lt v best >>= _)) _ >>= _) _ _ _
  refine wpAny_bind (wpAny_tryCatch (wpAny_holding (wpAny_bind (cm (j+1) (argBest bt j) v best _ _ _ pv pb ?_))))
  refine wpAny_bind (wpAny_holding (wpAny_truthy_bool ?_))
  refine wpAny_bind (wpAny_letGo (wpAny_pure ?_))
  cases eb:bt (j+1) (argBest bt j) with
  | true =>
   rw [if_pos rfl]
   refine wpAny_bind ?_
   refine wpAny_updateSeq eB' rfl (wpAny_bind (wpAny_letGo ?_))
   rw [nm]
   refine wpAny_pure ⟨plainId_quiet PySem.F.plain_min_loop _,ih (j+1) _ v _ (by omega) lt (W.frame _ _ _ st' fun b bf o e=>?_) (by simp only [argBest,eb,if_true]; exact pv) (Heap.get?_update_self _ eB' rfl) fun v' h2 tk2 pv' kp2=>?_⟩
   ·exact (Heap.get?_update_other _ _ (fun z:B=b=>nB (by rw [z]; exact bf))).trans e
   ·exact fin v' h2 tk2 pv' fun b o nb nS e=>kp2 b o nb nS ((Heap.get?_update_other _ _ (Ne.symm nS)).trans (kp b o nb e))
  | false =>
   rw [if_neg Bool.false_ne_true]
   refine wpAny_bind (wpAny_letGo ?_)
   rw [nm]
   refine wpAny_pure ⟨plainId_quiet PySem.F.plain_min_loop _,ih (j+1) _ best c (by omega) lt st' (by simp only [argBest,eb,Bool.false_eq_true,if_false]; exact pb) eB' fun v' h2 tk2 pv' kp2=>?_⟩
   exact fin v' h2 tk2 pv' fun b o nb nS e=>kp2 b o nb nS (kp b o nb e)
end
section
variable {prog:Program} {w:World} {A:Around} {E:Value→Shared→Prop} {s:Shared}
end
end MN
namespace L2
open PySem PySem.Spec PyProof.Rows
end L2
namespace L2
open PySem PySem.Spec PyProof.Rows
end L2
namespace L2
open PySem PySem.Spec PyProof.Rows
def Ku:R2:=fun x y H Q=>∃ (ds es:List D) (n:Nat),Den H x (.tup ds)∧Den H y (.tup es)∧fH (n+1) (.tup ds)∧fH (n+1) (.tup es)∧n≤50∧qK ds es∧Q (.bl (eqD (.tup ds) (.tup es))) H
theorem Hz {X:Cx} (hu:X.A.units+64 < cLine):OpR X (compareOp .Eq) Ku:=by
 intro pins s σ H x y v u Q I rx ry h
 obtain ⟨ds,es,n,hx,hy,hs1,hs2,hn,hm,q⟩:=h
 have ih:=Km I (s':=s) (fun b o z=>z) n
 obtain ⟨a,vs,rfl,ha,hda⟩:=aQ hx
 obtain ⟨b,us,rfl,hb,hdb⟩:=aQ hy
 cases rx
 cases ry
 obtain ⟨its,r1,p1,_⟩:=I.tuple (SqT.of (K:=X.K) ha)
 obtain ⟨its2,r2,p2,_⟩:=I.tuple (SqT.of (K:=X.K) hb)
 have l1:=hda.len
 have l2:=hdb.len
 have m1:=r1.length
 have m2:=r2.length
 have e0:=allR_eq ds es
 rw [show ds.length=its.toArray.size by simp; omega,show es.length=its2.toArray.size by simp; omega] at e0
 refine SeqAt.eq_tupleAt (e:=fun j=>eqD (ds.getD j .non) (es.getD j .non)) p1 p2 (by omega) (fun j h1 h2=>?_) ?_
 ·have hj1:j < vs.length:=by simpa [m1] using h1
  have hj2:j < us.length:=by simpa [m2] using h2
  obtain ⟨d1,g1,b1⟩:=hda.at_ (List.getElem?_eq_getElem hj1)
  obtain ⟨d2,g2,b2⟩:=hdb.at_ (List.getElem?_eq_getElem hj2)
  obtain ⟨w1,hw1,rw1⟩:=r1.get (List.getElem?_eq_getElem hj1)
  obtain ⟨w2,hw2,rw2⟩:=r2.get (List.getElem?_eq_getElem hj2)
  have q1:its.toArray[j]=w1:=by
   have:=(List.getElem?_eq_some_iff.mp hw1).2
   simpa using this
  have q2:its2.toArray[j]=w2:=by
   have:=(List.getElem?_eq_some_iff.mp hw2).2
   simpa using this
  rw [q1,q2]
  rw [List.getD_eq_getElem?_getD,List.getD_eq_getElem?_getD,g1,g2]
  have s1:=(hs1.2 ds rfl).2 d1 (List.mem_of_getElem? g1)
  have s2:=(hs2.2 es rfl).2 d2 (List.mem_of_getElem? g2)
  exact (ih d1 d2 X.A.in1 _ _ _ _ s1 s2 (hm.at_ g1 g2) b1 b2 rw1 rw2 (by first | (simp only [Around.in1]; omega) | omega)).1
 ·rw [e0]
  exact ⟨.bl _,H,I,rfl,q⟩
def Ny (K:PySem.W.Frag):R2:=fun x y H Q=>∃ (p:Addr) (us:List V) (d:D) (es:List D) (n:Nat),y=.ref p∧(SqL K H p us∨SqT K H p us)∧Den H x d∧cg H us es∧(∀ e∈es,∃ r,e=.tup r)∧(∃ r,d=.tup r)∧fH n d∧(∀ e∈es,fH n e∧Sim e d)∧n≤50∧Q (.bl (es.any fun e=>eqD e d)) H
theorem Ed {α β:Type} {f:α→Bool} {g:β→Bool}:∀ {xs:List α} {ys:List β},xs.length=ys.length→(∀ (i:Nat) x y,xs[i]?=some x→ys[i]?=some y→f x=g y)→xs.any f=ys.any g
 | [],[],_,_=>rfl
 | x :: xs,y :: ys,hl,h=>by
  rw [List.any_cons,List.any_cons,h 0 x y rfl rfl,Ed (by simpa using hl) fun i a b h1 h2=>h (i+1) a b (by simpa using h1) (by simpa using h2)]
 | [],_ :: _,hl,_=>by simp at hl
 | _ :: _,[],hl,_=>by simp at hl
open Classical in
theorem HF {X:Cx} (hu:X.A.units+64 < cLine):OpR X (compareOp .In) (Ny X.K):=by
 intro pins s σ H x y v u Q I rx ry h
 obtain ⟨p,us,d,es,n,rfl,hq,hx,hde,htup,⟨r0,rfl⟩,hsd,hse,hn,q⟩:=h
 cases ry
 have cm:=Km I (s':=s) (fun b o z=>z) n
 have key:∀ its:List Value,Vals us its→(∀ w∈its,SeqAt.EqAt X.A.in1 s w v (decide (∃ a e,w=Value.ref a∧Den H (.ref a) e∧eqD e (.tup r0)=true)))∧its.any (fun w=>decide (∃ a e,w=Value.ref a∧Den H (.ref a) e∧eqD e (.tup r0)=true))=es.any fun e=>eqD e (.tup r0):=by
  intro its r
  have at_:∀ (i:Nat) (w:Value),its[i]?=some w→∃ a e,es[i]?=some e∧w=.ref a∧Den H (.ref a) e:=fun i w hw=>by
   have hl:=r.length
   have hi:=(List.getElem?_eq_some_iff.mp hw).1
   obtain ⟨e,he,de⟩:=hde.at_ (List.getElem?_eq_getElem (by omega:i < us.length))
   obtain ⟨r1,rfl⟩:=htup e (List.mem_of_getElem? he)
   obtain ⟨a,vs,ea,ha,hd⟩:=aQ de
   obtain ⟨w',hw',rw'⟩:=r.get (List.getElem?_eq_getElem (by omega:i < us.length))
   rw [hw] at hw'
   cases hw'
   rw [ea] at rw' de
   cases rw'
   exact ⟨a,_,he,rfl,de⟩
  have val:∀ {a:Addr} {e:D},Den H (.ref a) e→decide (∃ a' e',Value.ref a=Value.ref a'∧Den H (.ref a') e'∧eqD e' (.tup r0)=true)=eqD e (.tup r0):=fun {a e} de=>by
   rw [Bool.eq_iff_iff,decide_eq_true_eq]
   constructor
   ·rintro ⟨a',e',ea,de',h⟩
    injection ea with ea
    subst ea
    rw [Den.det de de']
    exact h
   ·exact fun h=>⟨a,e,rfl,de,h⟩
  refine ⟨fun w hw=>?_,?_⟩
  ·obtain ⟨i,hi,rfl⟩:=List.getElem_of_mem hw
   obtain ⟨a,e,he,ew,de⟩:=at_ i _ (List.getElem?_eq_getElem hi)
   rw [ew,val de]
   obtain ⟨s1,s2⟩:=hse e (List.mem_of_getElem? he)
   exact (cm e (.tup r0) X.A.in1 (.ref a) x (.ref a) v s1 hsd s2 de hx rfl rx (by first | (simp only [Around.in1]; omega) | omega)).1
  ·refine Ed (by rw [← r.length,hde.len]) fun i w e hw he=>?_
   obtain ⟨a,e',he',ew,de⟩:=at_ i w hw
   rw [he] at he'
   cases he'
   rw [ew]
   exact val de
 rcases hq with hq | hq
 ·obtain ⟨its,r,pl,hz⟩:=I.list hq
  obtain ⟨k1,k2⟩:=key its r
  refine SeqAt.in_listAt (fun w=>decide (∃ a e,w=Value.ref a∧Den H (.ref a) e∧eqD e (.tup r0)=true)) pl.isList (fun w hw=>k1 w (by simpa using hw)) ⟨.bl _,H,I,rfl,?_⟩
  rw [show its.toArray.any (fun w=>decide (∃ a e,w=Value.ref a∧Den H (.ref a) e∧eqD e (.tup r0)=true))=its.any (fun w=>decide (∃ a e,w=Value.ref a∧Den H (.ref a) e∧eqD e (.tup r0)=true)) by simp,k2]
  exact q
 ·obtain ⟨its,r,pl,hz⟩:=I.tuple hq
  obtain ⟨k1,k2⟩:=key its r
  refine SeqAt.in_tupleAt (fun w=>decide (∃ a e,w=Value.ref a∧Den H (.ref a) e∧eqD e (.tup r0)=true)) pl (fun w hw=>k1 w (by simpa using hw)) ⟨.bl _,H,I,rfl,?_⟩
  rw [show its.toArray.any (fun w=>decide (∃ a e,w=Value.ref a∧Den H (.ref a) e∧eqD e (.tup r0)=true))=its.any (fun w=>decide (∃ a e,w=Value.ref a∧Den H (.ref a) e∧eqD e (.tup r0)=true)) by simp,k2]
  exact q
end L2
namespace L2
open PySem PySem.Spec PyProof.Rows
section
variable {X:Cx}
def mc (t:TE):TE:=fun σ H Q=>∃ Q0,t σ H Q0∧∀ v H',Q0 v H'→Q v H'
theorem PE.mc {e:Expr} {t:TE} (h:PE X e t):PE X e (mc t):=fun pins s σ H Q I ⟨Q0,h0,hm⟩ =>
 thn (h pins s σ H Q0 I h0) fun v s1 ⟨x,H1,I1,r1,q1⟩=>⟨x,H1,I1,r1,hm _ _ q1⟩
def mcA (t:TA):TA:=fun σ H Q=>∃ Q0,t σ H Q0∧∀ v H',Q0 v H'→Q v H'
theorem PA.mc {es:List Expr} {t:TA} (h:PA X es t):PA X es (mcA t):=fun pos pins s σ H Q I ⟨Q0,h0,hm⟩ =>
 thn (h pos pins s σ H Q0 I h0) fun v s1 ⟨x,H1,I1,r1,q1⟩=>⟨x,H1,I1,r1,hm _ _ q1⟩
end
end L2
namespace L2
open PySem PySem.Spec PyProof.Rows
structure Up (D E:Ends):Prop where
 n:∀ σ H,D.nx σ H→E.nx σ H
 r:∀ v H,D.rt v H→E.rt v H
 b:∀ σ H,D.bk σ H→E.bk σ H
 c:∀ σ H,D.ct σ H→E.ct σ H
theorem cY {J:It} {g:TG} {tc:TT} {te:TE} {R:Hp→Prop} {l:Addr} {σ0:St} {H0:Hp} (n:Nat) (Pv:Nat→St→Hp→Prop) (h0:Pv 0 σ0 H0) (hstop:∀ σ H,Pv n σ H→J.stop n H∧R H)
  (hgo:∀ i σ H,i < n→Pv i σ H→J.go i H∧∀ N:St→Hp→Prop,(∀ σ' H',Pv (i+1) σ' H'→N σ' H')→∀ x H',J.yld i H x H'→g x σ H' fun σ2 H2=>tc σ2 H2 fun b H3=>if b=true then te σ2 H3 fun v H4=>∃ ys,H4 l=some (.lst ys)∧ys.length < sizeLine∧N σ2 (upd H4 l (.lst (ys++[v]))) else N σ2 H3) :
  ∃ W:Nat→Nat→St→Hp→Prop,(∃ m,W 0 m σ0 H0)∧∀ i m σ H,W i m σ H →
   (J.stop i H∧R H)∨(J.go i H∧∃ N:St→Hp→Prop,(∀ σ' H',N σ' H'→∃ m',m' < m∧W (i+1) m' σ' H') ∧
    ∀ x H',J.yld i H x H'→g x σ H' fun σ2 H2=>tc σ2 H2 fun b H3=>if b=true then te σ2 H3 fun v H4=>∃ ys,H4 l=some (.lst ys)∧ys.length < sizeLine∧N σ2 (upd H4 l (.lst (ys++[v]))) else N σ2 H3) :=
 gK n Pv h0 hstop fun i σ H hi hp=>⟨(hgo i σ H hi hp).1,(hgo i σ H hi hp).2 _ fun _ _ h=>h⟩
def FnI (K:PySem.W.Frag) (x:Str) (st:Stmt):Prop:=∃ (f:Addr) (fd:FuncData),PySem.W.nsIn K mainGlobals x=some (some (.ref f))∧Fun K x x st f fd
theorem fni {K:PySem.W.Frag} {x:Str} {st:Stmt} {f:Addr} {oc:Value} {od an:Option Addr} {osl:Array (Option Value)} {kV doc pm cdv ct:Value} (a:PySem.W.nsIn K mainGlobals x=some (some (.ref f))) (l:K.lookup f=some ⟨oc,od,.func (PySem.W.fnOf x x (iB st) (eF st) (aC st) .none kV doc pm an cdv ct),osl⟩)
  (c:PySem.W.codeIn K cdv x=true) (k:PySem.W.keepIn K (.ref f)=true):FnI K x st:=⟨f,_,a,En l c k⟩
theorem FnI.has {K:PySem.W.Frag} {mg:Str→Option Value} {h:Heap} {x:Str} {st:Stmt} {ps:List Str} (X:K.In h) (G:h.Ns mainGlobals mg) (i:FnI K x st)
  (hb:∀ (kV doc pm:Value) (an:Option Addr) (cdv ct:Value) (us:List Value),us.length=ps.length→bindArgs (PySem.W.fnOf x x (iB st) (eF st) (aC st) .none kV doc pm an cdv ct) ⟨us,[]⟩=pure (ps.zip us)):Has K mg x st ps:=by
 obtain ⟨f,fd,a,F⟩:=i
 exact ⟨f,fd,F,F.binds hb,PySem.W.mg_of X G a⟩
theorem len0 {α:Type _} {P:List α→Prop} (us:List α) (hl:us.length=0) (h:P []):P us:=by
 cases us with
 | nil=>exact h
 | cons a t=>exact (Nat.succ_ne_zero _ hl).elim
theorem DK {α:Type _} {P:List α→Prop} (us:List α) (n:Nat) (hl:us.length=n+1) (h:∀ a t,t.length=n→P (a :: t)):P us:=by
 cases us with
 | nil=>exact (Nat.succ_ne_zero n hl.symm).elim
 | cons a t=>exact h a t (Nat.succ.inj hl)
@[elab_as_elim] theorem len1 {α:Type _} {P:List α→Prop} (us:List α) (hl:us.length=1) (h:∀ a0,P [a0]):P us:=DK (P:=P) us 0 hl fun a t ht=>len0 (P:=fun t=>P (a :: t)) t ht (h a)
@[elab_as_elim] theorem len2 {α:Type _} {P:List α→Prop} (us:List α) (hl:us.length=2) (h:∀ a0 a1,P [a0,a1]):P us:=DK (P:=P) us 1 hl fun a t ht=>len1 (P:=fun t=>P (a :: t)) t ht (h a)
@[elab_as_elim] theorem BX {α:Type _} {P:List α→Prop} (us:List α) (hl:us.length=3) (h:∀ a0 a1 a2,P [a0,a1,a2]):P us:=DK (P:=P) us 2 hl fun a t ht=>len2 (P:=fun t=>P (a :: t)) t ht (h a)
@[elab_as_elim] theorem Mw {α:Type _} {P:List α→Prop} (us:List α) (hl:us.length=4) (h:∀ a0 a1 a2 a3,P [a0,a1,a2,a3]):P us:=DK (P:=P) us 3 hl fun a t ht=>BX (P:=fun t=>P (a :: t)) t ht (h a)
@[elab_as_elim] theorem MP {α:Type _} {P:List α→Prop} (us:List α) (hl:us.length=5) (h:∀ a0 a1 a2 a3 a4,P [a0,a1,a2,a3,a4]):P us:=DK (P:=P) us 4 hl fun a t ht=>Mw (P:=fun t=>P (a :: t)) t ht (h a)
@[elab_as_elim] theorem M6 {α:Type _} {P:List α→Prop} (us:List α) (hl:us.length=6) (h:∀ a0 a1 a2 a3 a4 a5,P [a0,a1,a2,a3,a4,a5]):P us:=DK (P:=P) us 5 hl fun a t ht=>MP (P:=fun t=>P (a :: t)) t ht (h a)
@[elab_as_elim] theorem N7 {α:Type _} {P:List α→Prop} (us:List α) (hl:us.length=7) (h:∀ a0 a1 a2 a3 a4 a5 a6,P [a0,a1,a2,a3,a4,a5,a6]):P us:=DK (P:=P) us 6 hl fun a t ht=>M6 (P:=fun t=>P (a :: t)) t ht (h a)
@[elab_as_elim] theorem Oi {α:Type _} {P:List α→Prop} (us:List α) (hl:us.length=8) (h:∀ a0 a1 a2 a3 a4 a5 a6 a7,P [a0,a1,a2,a3,a4,a5,a6,a7]):P us:=DK (P:=P) us 7 hl fun a t ht=>N7 (P:=fun t=>P (a :: t)) t ht (h a)
end L2
namespace L2
open PySem PySem.Spec PyProof.Rows
def ExcAt (cls:Value) (T e:Addr) (h:Heap):Prop:=∃ oe vs a0,h.get? e=some oe∧oe.cls=cls∧oe.data=.fields vs∧vs[0]?=some a0∧vs[1]?=some (.ref T)
def lG (T:Addr) (h:Heap):Prop:=∃ oT ts,h.get? T=some oT∧oT.data=.fields ts∧ts[3]?=some .none
def lQ (cls:Value) (T e:Addr):HO:=.ext (ExcAt cls T e)
def TrO (T:Addr):HO:=.ext (lG T)
theorem FN {P:Program} {w:World} {H:Hp} {h:Heap} {cls:Value} {T e:Addr} (x:ExcAt cls T e h):dZ P w H h e (lQ cls T e):=by
 refine ⟨x,?_,fun h1 h2 p k=>?_⟩
 ·obtain ⟨oe,_,_,he,_⟩:=x
  exact ⟨oe,he⟩
 ·obtain ⟨oe,vs,a0,he,r⟩:=p
  exact ⟨oe,vs,a0,k oe he,r⟩
theorem zT {P:Program} {w:World} {H:Hp} {h:Heap} {T:Addr} (x:lG T h):dZ P w H h T (TrO T):=by
 refine ⟨x,?_,fun h1 h2 p k=>?_⟩
 ·obtain ⟨oe,_,he,_⟩:=x
  exact ⟨oe,he⟩
 ·obtain ⟨oe,vs,he,r⟩:=p
  exact ⟨oe,vs,k oe he,r⟩
def CX1 (P:Program) (w:World):CXT:=fun outer H s E e s'=>∃ (ea T:Addr) (cls:Value) (H':Hp),e=.ref ea∧T≠ea∧s'.os=s.os∧AllBare s'.gens∧Un (frs outer) [] H H' s.heap s'.heap∧HOk P w H' s'.heap ∧
 H' ea=some (lQ cls T ea)∧H' T=some (TrO T)∧E cls (some ea) H'
section
variable {M:Model} {A:Around} {E:Value→Shared→Prop} {s:Shared} {base:Heap} {env:Env} {outer:List Env} {L e:Addr}
structure Left (fs:List Addr) (e:Addr) (cls:Value) (T:Addr) (h h':Heap):Prop where
 keep:∀ b o,h.get? b=some o→b ∉ fs→b≠e→h'.get? b=some o
 slot:∀ b o,h.get? b=some o→b∈fs→∃ sl,h'.get? b=some { o with slots:=sl }
 new:h.get? T=none
 ne:T≠e
 exc:ExcAt cls T e h'
 tr:lG T h'
theorem iu {base B h:Heap} {l:List Env} (hl:h.FunFrames base l) (hB:∀ b∈frs l,B.get? b=none):h.FunFrames B l:=by
 induction l with
 | nil=>trivial
 | cons env r ih =>
  obtain ⟨hk,⟨L,o,hf,hn,ho,hd⟩,hr⟩:=hl
  refine ⟨hk,⟨L,o,hf,hB L ?_,ho,hd⟩,ih hr fun b hb=>hB b ?_⟩
  ·unfold frs; rw [List.filterMap_cons,hf]; exact List.mem_cons_self
  ·unfold frs; rw [List.filterMap_cons,hf]; exact List.mem_cons_of_mem _ hb
theorem uI {cls a0:Value} {h':Heap} (hl:s.heap.FunFrames base (env :: outer))
  (x:Heap.LeftW (PySem.W.hideAll s.heap (e :: frs (env :: outer))) (env :: outer) e cls a0 s.heap h'):∃ T,Left (frs (env :: outer)) e cls T s.heap h':=by
 obtain ⟨k1,k2,⟨oe,vs,T,oT,ts,he,⟨hc,h0⟩,hd,h1,hnT,hTe,hT,hdT,h3⟩,k4⟩:=x
 refine ⟨T,fun b o hb hn hne=>k1 b o (PySem.W.hideAll_get _ hb fun z=>?_),fun b o hb hm=>?_,?_,hTe,⟨oe,vs,a0,he,hc,hd,h0,h1⟩,⟨oT,ts,hT,hdT,h3⟩⟩
 ·rcases List.mem_cons.mp z with z | z
  ·exact hne z
  ·exact hn z
 ·obtain ⟨_,o',ho',hnf⟩:=hl.mem hm
  rw [hb] at ho'; cases ho'
  exact k4 b o hb hnf
 ·cases q:s.heap.get? T with
  | none=>rfl
  | some o =>
   exfalso
   by_cases hm:T∈frs (env :: outer)
   ·obtain ⟨_,o',ho',hnf⟩:=hl.mem hm
    obtain ⟨sl,e1⟩:=k4 T o' ho' hnf
    rw [hT] at e1; cases e1
    exact hnf ts hdT
   ·have:=PySem.W.hideAll_get (e :: frs (env :: outer)) q fun z=>(List.mem_cons.mp z).elim hTe hm
    rw [hnT] at this; cases this
theorem tV {oe:Obj} {vs:Array Value} {a0:Value} {Q:Unit→Shared→Prop} (hfr:A.frames=some (env :: outer)) (hl:s.heap.FunFrames base (env :: outer)) (hf:env.frame=some L)
  (he:s.heap.get? e=some oe) (hd:oe.data=.fields vs) (h1:vs[1]?=some .none) (h0:vs[0]?=some a0)
  (h:∀ h' T,Left (frs (env :: outer)) e oe.cls T s.heap h'→Q () { s with heap:=h' }):wpAny M A (leaving env (.ref e)) Q E s:=by
 refine wpAny_leaving_firstW (base:=PySem.W.hideAll s.heap (e :: frs (env :: outer))) hfr (iu hl fun b hb=>PySem.W.hideAll_none _ (List.mem_cons_of_mem _ hb)) hf he (fun b o hb=>PySem.W.of_hideAll _ hb) (PySem.W.hideAll_none _ List.mem_cons_self) hd h1 h0 fun h' x=>?_
 obtain ⟨T,y⟩:=uI hl x
 exact h h' T y
theorem qR {cls:Value} {T:Addr} {Q:Unit→Shared→Prop} (hfr:A.frames=some (env :: outer)) (hl:s.heap.FunFrames base (env :: outer)) (hf:env.frame=some L)
  (hx:ExcAt cls T e s.heap) (hT:lG T s.heap) (hTe:T≠e)
  (h:∀ h1 h' T',(∀ b,b≠T→h1.get? b=s.heap.get? b)→lG T h1→Left (frs (env :: outer)) e cls T' h1 h'→Q () { s with heap:=h' }):wpAny M A (noteFrame (.ref e) env) (fun _ s'=>wpAny M A (setFlight (.ref e) none) Q E s') E s:=by
 obtain ⟨oe,vs,a0,he,hcls,hd,h0,h1⟩:=hx
 obtain ⟨oT,ts,hT,hdT,h3⟩:=hT
 subst hcls
 unfold noteFrame
 simp only [hf]
 refine wpAny_bind (wpAny_field he hd h1 ?_)
 rw [if_pos (show (Value.ref T != Value.none)=true from by simp)]
 refine wpAny_bind (wpAny_field hT hdT h3 ?_)
 rw [if_neg (show ¬ ((Value.none == rawInt L)=true) from by simp [rawInt])]
 refine wpAny_bind (wpAny_setField hT hdT (Array.getElem?_eq_some_iff.mp h3).1 ?_)
 have other:∀ b,b≠T→(s.heap.update T (Obj.mapFields (·.setIfInBounds 3 Value.none))).get? b=s.heap.get? b:=fun b hb=>Heap.get?_update_other _ _ (Ne.symm hb)
 have noRecord:∀ b o,s.heap.get? b=some o→(∀ vs,o.data≠.fields vs)→b≠T:=fun b o hb hnf q=>by
  rw [q,hT] at hb; injection hb with hb; subst hb; exact hnf ts hdT
 have hl1:(s.heap.update T (Obj.mapFields (·.setIfInBounds 3 Value.none))).FunFrames base (env :: outer):=hl.of_keeps fun b o hb hnf=>⟨o,(other b (noRecord b o hb hnf)).trans hb,rfl⟩
 have hT1:lG T (s.heap.update T (Obj.mapFields (·.setIfInBounds 3 Value.none))) :=
  ⟨_,_,Heap.get?_update_self _ hT (Obj.isFreed_of_fields (Obj.data_mapFields hdT _)),Obj.data_mapFields hdT _,by simp [(Array.getElem?_eq_some_iff.mp h3).1]⟩
 refine wpAny_newEntryW (base:=PySem.W.hideAll (s.heap.update T (Obj.mapFields (·.setIfInBounds 3 Value.none))) (e :: frs (env :: outer))) hfr (iu hl1 fun b hb=>PySem.W.hideAll_none _ (List.mem_cons_of_mem _ hb)) hf ((other e (Ne.symm hTe)).trans he)
  (fun b o hb=>PySem.W.of_hideAll _ hb) (PySem.W.hideAll_none _ List.mem_cons_self) hd (Array.getElem?_eq_some_iff.mp h1).1 h0 fun h' x=>?_
 obtain ⟨T',y⟩:=uI (s:={ s with heap:=s.heap.update T (Obj.mapFields (·.setIfInBounds 3 Value.none)) }) hl1 x
 exact h _ h' T' other hT1 y
theorem wK {cls:Value} {T:Addr} {Q:Unit→Shared→Prop} (hfr:A.frames=some (env :: outer)) (hl:s.heap.FunFrames base (env :: outer)) (hf:env.frame=some L)
  (hx:ExcAt cls T e s.heap) (hT:lG T s.heap) (hTe:T≠e)
  (h:∀ h1 h' T',(∀ b,b≠T→h1.get? b=s.heap.get? b)→lG T h1→Left (frs (env :: outer)) e cls T' h1 h'→Q () { s with heap:=h' }):wpAny M A (leaving env (.ref e)) Q E s:=by
 unfold leaving
 exact wpAny_bind (qR hfr hl hf hx hT hTe h)
end
theorem dZ.has {P:Program} {w:World} {H:Hp} {h:Heap} {a:Addr} {o:HO} (x:dZ P w H h a o):∃ u,h.get? a=some u:=by
 cases o with
 | lst xs=>obtain ⟨_,_,_,_,e⟩:=x; exact ⟨_,e⟩
 | tup xs=>obtain ⟨_,_,_,ob,e,_⟩:=x; exact ⟨_,e⟩
 | dK kvs=>obtain ⟨_,_,_,_,ob,_,_,e,_⟩:=x; exact ⟨_,e⟩
 | dT kvs=>obtain ⟨_,_,_,_,ob,_,_,e,_⟩:=x; exact ⟨_,e⟩
 | set S n=>obtain ⟨ob,_,_,_,e,_⟩:=x; exact ⟨_,e⟩
 | ins C dx fs=>obtain ⟨_,_,_,e,_⟩:=x; exact ⟨_,e⟩
 | own y=>exact x
 | xd fs=>obtain ⟨_,⟨ob,_,_,e,_⟩,_⟩:=x; exact ⟨_,e⟩
 | rng lo hi=>obtain ⟨_,_,_,e⟩:=x; exact ⟨_,e⟩
 | frz ob u=>exact ⟨_,x.1⟩
 | tbl ps=>exact ⟨_,x⟩
 | met f y=>exact ⟨_,x⟩
 | ext φ=>exact x.2.1
theorem HOk.new {P:Program} {w:World} {H:Hp} {h:Heap} {a:Addr} (x:HOk P w H h) (e:h.get? a=none):H a=none:=by
 cases q:H a with
 | none=>rfl
 | some u =>
  obtain ⟨o,z⟩:=(x a u q).has
  rw [e] at z; cases z
abbrev xH (H:Hp) (T e:Addr) (cls:Value):Hp:=upd (upd H T (TrO T)) e (lQ cls T e)
theorem Kl {H:Hp} {T e:Addr} {cls:Value} (h:T≠e):xH H T e cls T=some (TrO T):=by
 show upd (upd H T (TrO T)) e (lQ cls T e) T=_
 rw [aG h]; exact ak
section
variable {P:Program} {w:World} {fs:List Addr} {e T T0:Addr} {cls:Value} {H:Hp} {h0 h1 h':Heap}
theorem Left.un (x:Left fs e cls T h1 h') (hok:HOk P w H h0) (hfs:∀ b∈fs,H b=none) (k:∀ b o,h0.get? b=some o→b≠T0→h1.get? b=some o) (kn:∀ b,h1.get? b=none→h0.get? b=none)
  (e1:∀ o,h0.get? e=some o→∃ T1,H e=some (lQ cls T1 e)) (t1:T0=e∨(H T0=some (TrO T0)∧lG T0 h1)):Un fs [] H (xH H T e cls) h0 h'∧HOk P w (xH H T e cls) h':=by
 have hT0:h0.get? T=none:=kn T x.new
 have hTn:H T=none:=hok.new hT0
 have exx:∀ u,H e=some u→∃ T1,u=lQ cls T1 e:=fun u q=>by
  obtain ⟨o,z⟩:=(hok e u q).has
  obtain ⟨T1,r⟩:=e1 o z
  rw [r] at q; cases q; exact ⟨T1,rfl⟩
 have gen:∀ b u,H b=some u→(∀ φ,u≠.ext φ)→xH H T e cls b=some u:=fun b u q ne=>by
  have hbe:b≠e:=fun z=>by
   subst z
   obtain ⟨T1,r⟩:=exx u q
   exact ne _ r
  have hbT:b≠T:=fun z=>by subst z; rw [hTn] at q; cases q
  show upd (upd H T (TrO T)) e (lQ cls T e) b=some u
  rw [aG hbe,aG hbT]; exact q
 have ke:∀ b o,h0.get? b=some o→H b=none→b≠e:=fun b o q n z=>by
  subst z
  obtain ⟨T1,r⟩:=e1 o q
  rw [n] at r; cases r
 have kT:∀ b o,h0.get? b=some o→H b=none→b≠T0:=fun b o q n z=>by
  rcases t1 with r | ⟨r,_⟩
  ·exact ke b o q n (z.trans r)
  ·subst z; rw [n] at r; cases r
 have on:∀ b o,h1.get? b=some o→b≠e→∃ o',h'.get? b=some o':=fun b o q hbe=>by
  by_cases hb:b∈fs
  ·obtain ⟨sl,z⟩:=x.slot b o q hb
   exact ⟨_,z⟩
  ·exact ⟨o,x.keep b o q hb hbe⟩
 refine ⟨⟨fun b o q n hb _=>x.keep b o (k b o q (kT b o q n)) hb (ke b o q n),fun b o q n hb _=>x.slot b o (k b o q (kT b o q n)) hb,fun b o q n _=>?_,fun b o q _=>?_,fun b xs q=>gen b _ q fun φ z=>(nomatch z),fun b o u q=>gen b _ q fun φ z=>(nomatch z),fun b ps q=>⟨#[],by rw [gen b _ q fun φ z=>(nomatch z)]; simp⟩⟩,fun b u q=>?_⟩
 ·have hbT:b≠T:=fun z=>by subst z; rw [hT0] at q; cases q
  show upd (upd H T (TrO T)) e (lQ cls T e) b=none
  rw [aG (ke b o q n),aG hbT]; exact n
 ·by_cases hbe:b=e
  ·subst hbe
   obtain ⟨oe,_,_,z,_⟩:=x.exc
   exact ⟨oe,z⟩
  ·by_cases hb0:b=T0
   ·subst hb0
    rcases t1 with r | ⟨_,oT,_,z,_⟩
    ·exact absurd r hbe
    ·exact on b oT z hbe
   ·exact on b o (k b o q hb0) hbe
 ·by_cases hbe:b=e
  ·subst hbe
   have:u=lQ cls T b:=by
    have q':upd (upd H T (TrO T)) b (lQ cls T b) b=some u:=q
    rw [ak] at q'; cases q'; rfl
   subst this
   exact FN x.exc
  ·have q1:upd (upd H T (TrO T)) e (lQ cls T e) b=some u:=q
   rw [aG hbe] at q1
   by_cases hbT:b=T
   ·subst hbT
    rw [ak] at q1; cases q1
    exact zT x.tr
   ·rw [aG hbT] at q1
    have hbf:b ∉ fs:=fun z=>by rw [hfs b z] at q1; cases q1
    by_cases hb0:b=T0
    ·subst hb0
     rcases t1 with r | ⟨r,oT,ts,z,y⟩
     ·exact absurd r hbe
     ·rw [r] at q1; cases q1
      exact zT ⟨oT,ts,x.keep b oT z hbf hbe,y⟩
    ·refine (hok b u q1).stay (fun c v hc q2=>?_) (fun c q2=>gen c _ q2 fun φ z=>(nomatch z)) fun c xs q2=>gen c _ q2 fun φ z=>(nomatch z)
     rcases hc with rfl | hc
     ·exact x.keep c v (k c v q2 hb0) hbf hbe
     ·have hce:c≠e:=fun z=>by
       subst z
       obtain ⟨T1,r⟩:=exx _ hc
       cases r
      have hc0:c≠T0:=fun z=>by
       rcases t1 with r | ⟨r,_⟩
       ·exact hce (z.trans r)
       ·subst z; rw [r] at hc; cases hc
      exact x.keep c v (k c v q2 hc0) (fun z=>by rw [hfs c z] at hc; cases hc) hce
end
section
variable {X:Cx} {pins:List (Addr × Obj)} {σ:St} {H H':Hp} {s:Shared} {h':Heap}
theorem Inv.out (I:Inv X pins σ H s) (hx:X.ex=[]) (u:Un (frs X.stack) [] H H' s.heap h'):Un (frs X.outer) [] X.H₀ H' X.s₀.heap h':=by
 have hsub:∀ b∈X.fs,b∈frs X.stack:=fun b hb=>by
  rcases I.ok.stk with e | ⟨e,hf⟩
  ·rw [e]; exact hb
  ·rw [e]; unfold frs; rw [List.filterMap_cons,hf]; exact List.mem_cons_of_mem _ hb
 have b0:=I.base
 rw [hx] at b0
 have t:=(b0.mono (fs':=frs X.stack) (ex':=[]) hsub fun _ z=>z).trans u
 refine ⟨fun b o q n hb hx=>t.keep b o q n (fun z=>?_) hx,fun b o q n hb hx=>t.slot b o q n (hsub b hb) hx,t.free,t.there,t.tups,t.frzs,t.tbls⟩
 rcases List.mem_cons.mp (I.stkSub b z) with r | r
 ·subst r
  exact absurd (Nat.lt_of_lt_of_le (Heap.lt_size q) I.ok.above) (Nat.lt_irrefl _)
 ·exact hb r
end
section
variable {P:Program} {w:World} {K:PySem.W.Frag} {mg:Str→Option Value} {base:Heap} {N:List Str} {qual:Str} {scope:Scope} {f:Addr} {cd:Value} {A:Around} {outer:List Env} {s0:Shared} {H0:Hp} {E:XK}
 {pins:List (Addr × Obj)} {σ:St} {H:Hp} {s:Shared}
theorem tU {cls:Value} {args:List Value} {e:Addr} {h1:Heap} (I:Inv (uK (CX1 P w) P w K mg base N qual scope f cd A outer s0 H0 E) pins σ H s) (hx:Heap.MadeExcOf s.heap h1 e cls args)
  (hE:∀ T,H e=none→H T=none→E cls (some e) (xH H T e cls)):(uK (CX1 P w) P w K mg base N qual scope f cd A outer s0 H0 E).xe (.ref e) { s with heap:=h1 }:=by
 have hl:=I.stack
 have hl1:h1.FunFrames base (envOfC qual scope s0.heap.objs.size f cd :: outer):=hl.of_keeps fun b o hb _=>⟨o,hx.keeps b o hb,rfl⟩
 obtain ⟨t,he,htn,ht⟩:=hx.there
 refine tV (s:={ s with heap:=h1 }) (L:=s0.heap.objs.size) I.ok.frames hl1 rfl he rfl rfl rfl fun h' T x=>?_
 have kn:∀ b,h1.get? b=none→s.heap.get? b=none:=fun b q=>by
  cases z:s.heap.get? b with
  | none=>rfl
  | some o=>rw [hx.keeps b o z] at q; cases q
 have He:H e=none:=I.hok.new hx.new
 obtain ⟨u,ok⟩:=x.un (P:=P) (w:=w) (T0:=e) (H:=H) (h0:=s.heap) I.hok I.stkFree (fun b o q _=>hx.keeps b o q) kn (fun o q=>by rw [hx.new] at q; cases q) (.inl rfl)
 exact ⟨e,T,cls,_,rfl,x.ne,I.os,I.bare,I.out rfl u,ok,ak,Kl x.ne,hE T He (I.hok.new (kn T x.new))⟩
theorem G7 (E1:XK) (hE:∀ cls e T H',H' e=some (lQ cls T e)→E1 cls (some e) H'→∀ T',H' T'=none→E cls (some e) (xH H' T' e cls)):Passes (CX1 P w) (uK (CX1 P w) P w K mg base N qual scope f cd A outer s0 H0 E) E1:=by
 intro pins σ H s e s' I h
 obtain ⟨ea,T,cls,H',rfl,hTe,os,bare,un,ok,he,hT,q⟩:=h
 have J:Inv (uK (CX1 P w) P w K mg base N qual scope f cd A outer s0 H0 E) pins σ H' s':=I.call' (ch:=[]) os un ok bare fun b z=>absurd z (by simp)
 have a1:ExcAt cls T ea s'.heap:=(ok ea _ he).1
 have a2:lG T s'.heap:=(ok T _ hT).1
 refine wK (s:=s') (L:=s0.heap.objs.size) J.ok.frames J.stack rfl a1 a2 hTe fun h1 h' T' k1 k2 x=>?_
 have kn:∀ b,h1.get? b=none→s'.heap.get? b=none:=fun b q=>by
  by_cases hb:b=T
  ·subst hb
   obtain ⟨oT,_,z,_⟩:=k2
   rw [z] at q; cases q
  ·rw [← k1 b hb]; exact q
 obtain ⟨u,ok'⟩:=x.un (P:=P) (w:=w) (T0:=T) (H:=H') (h0:=s'.heap) J.hok J.stkFree (fun b o q hb=>by rw [k1 b hb]; exact q) kn (fun o _=>⟨T,he⟩) (.inr ⟨hT,k2⟩)
 exact ⟨ea,T',cls,_,rfl,x.ne,J.os,J.bare,J.out rfl u,ok',ak,Kl x.ne,hE cls ea T H' he q T' (J.hok.new (kn T' x.new))⟩
end
end L2
namespace L2
open PySem PySem.Spec PyProof.Rows
abbrev vBm:List Value:=[.type "ValueError",.type "Exception",.type "BaseException",.type "object"]
theorem zQ {K:PySem.W.Frag} {h:Heap} {C:Addr} {bmB:List Value} {newId:String} {x:Str} {mg:Str→Option Value} (X:K.In h) (hb:mg x=some (.ref C)) (q:PySem.W.excIn K C bmB newId=true):OwnCls x C bmB newId mg h:=by
 refine ⟨hb,?_⟩
 unfold PySem.W.excIn at q
 split at q
 ·rename_i dd cd sl ho
  split at q
  ·rename_i C' bm k0 k1 k2 k3 n k5 hm hs
   simp only [Bool.and_eq_true,beq_iff_eq,Bool.not_eq_true'] at q
   obtain ⟨⟨⟨⟨⟨h1,h2⟩,h3⟩,h4⟩,h5⟩,h6⟩:=q
   subst h1; subst h2
   have e1:sl = #[k0,k1,k2,k3,some (.builtin n),k5]:=Array.toList_inj.mp hs
   subst e1
   have e2:cd={ name:=cd.name,bases:=cd.bases,mro:=.ref C' :: bm,ns:=cd.ns,qualname:=cd.qualname,hasDict:=cd.hasDict,slotNames:=cd.slotNames,subclasses:=cd.subclasses,abstract:=cd.abstract,collection:=cd.collection,hasDel:=false }:=by
    rw [← hm,← h3]
   have e3:=X _ _ ho
   rw [e2] at e3
   exact ⟨bm,cd.ns,cd.name,cd.qualname,cd.bases,cd.hasDict,cd.slotNames,cd.subclasses,cd.abstract,cd.collection,dd,k0,k1,k2,k3,k5,_,e3,.of_isNs (PySem.W.isNs_of_in X h5),PySem.W.nsMap_none_of_in X h5 h6,PySem.W.tail_of_in X h4⟩
  ·cases q
 ·cases q
def Throws (X:Cx) (E:XK):Prop:=∀ (pins:List (Addr × Obj)) (σ:St) (H:Hp) (s:Shared) (e:Addr) (h1:Heap) (cls:Value) (args:List Value),Inv X pins σ H s→Heap.MadeExcOf s.heap h1 e cls args →
 (∀ T,H e=none→H T=none→E cls (some e) (xH H T e cls))→X.xe (.ref e) { s with heap:=h1 }
theorem c7 {P:Program} {w:World} {K:PySem.W.Frag} {mg:Str→Option Value} {base:Heap} {N:List Str} {qual:Str} {scope:Scope} {f:Addr} {cd:Value} {A:Around} {outer:List Env} {s0:Shared} {H0:Hp} {E:XK} :
  Throws (uK (CX1 P w) P w K mg base N qual scope f cd A outer s0 H0 E) E:=fun _ _ _ _ _ _ _ _ I hx hE=>tU I hx hE
def zF (C:Addr) (E:XK) (t:TA):TS:=fun _ σ H=>t σ H fun vs H1=>vs.length≤sizeLine∧∀ e T,H1 e=none→H1 T=none→E (.ref C) (some e) (xH H1 T e (.ref C))
theorem cO {X:Cx} {x:Str} {C:Addr} {E:XK} {a:Expr} {as:List Expr} {t:TA} {np cpos pos:Pos} (hc:X.calm=true) (ht:Throws X E) (hg:Gl X x) (hm:X.mg x=some (.ref C)) (hq:PySem.W.excIn X.K C vBm "ValueError.__new__" = true) (ha:PA X (a :: as) t)
  (hdb:(x == ("__debug__" : Str))=false:=by decide) (he:starEach (a :: as) X.env=(false,eval a X.env) :: starEach as X.env:=by rfl) (hpl:(backTo cpos (starEach as X.env)).any (·.1)=false:=by rfl) :
  PS X (.Raise (some (.Call (.Name x np) (a :: as) [] cpos)) none pos) (zF C E t):=by
 intro pins s σ H D I h
 obtain ⟨_,bm,N,nm,q,bs,hdct,sn,sub,ab,col,dd,k0,k1,k2,k3,k5,mN,hC,hN,hni,T⟩:=zQ (x:=x) I.mod.kin hm hq
 have hb:bm.contains (.type "BaseException")=true:=T.hasType (by decide)
 refine wpAny_Raise_call_subT (C:=C) (nm:=nm) (q:=q) (N:=N) (bs:=bs) (bm:=bm) (hdct:=hdct) (sn:=sn) (sub:=sub) (ab:=ab) (col:=col) (dd:=dd) (k0:=k0) (k1:=k1) (k2:=k2) (k3:=k3) (k5:=k5) F.excBase_ValueError hb (I.ok.hd hc) ?_ hni (kj I hg hm ⟨rfl,?_⟩ hdb)
 ·rw [he]; show (false || (backTo cpos (starEach as X.env)).any (·.1))=false; rw [hpl]; rfl
 have h2:=ha cpos pins s σ H _ I h
 rw [he] at h2 ⊢
 refine Calls.evalArgs_plain (wpAny_mono h2 (fun us s1 ⟨vs,H1,I1,r,q1,q2⟩=>⟨rfl,?_,I1.bk _ _ hC,hN.keeps I1.bk,T.keeps I1.bk,fun h' e hx=>ht pins σ H1 s1 e h' _ _ I1 hx fun T h3 h4=>q2 e T h3 h4⟩) fun _ _ y=>y)
 rw [← r.length]; exact q1
abbrev TJ:=St→Hp→Str→VK→Prop
def PJ (X:Cx) (es:List Expr) (t:TJ):Prop :=
 ∀ (pins:List (Addr × Obj)) (s:Shared) (σ:St) (H:Hp) (acc:Str) (Q:VK),Inv X pins σ H s→t σ H acc Q→wpAny (model X.prog X.w) X.A (joinParts acc (evalEach es X.env)) (EP X pins σ Q) X.xe s
def tJ0:TJ:=fun _ H acc Q=>acc.length≤sizeLine∧Q (.str acc) H
def tJ1 (te:TE) (tj:TJ):TJ:=fun σ H acc Q=>te σ H fun v H1=>∃ y,v=.str y∧(acc++y).length≤sizeLine∧tj σ H1 (acc++y) Q
def J4 (te:TE):TE:=fun σ H Q=>te σ H fun v H1=>(∃ y,v=.str y∧y.length≤sizeLine∧Q v H1)∨∃ i:Int,v=.int i∧i.natAbs.log2 < 1920∧Q (.str (toString i)) H1
section
variable {X:Cx} {e e2:Expr} {es:List Expr} {te te2:TE} {tj:TJ} {pos:Pos}
theorem iz:PJ X [] tJ0:=fun pins s σ H acc Q I h=>joinParts_nil ⟨.str acc,H,I.tok _,⟨_,rfl⟩,h.2⟩ h.1
theorem bC (he:PE X e te) (hj:PJ X es tj):PJ X (e :: es) (tJ1 te tj):=fun pins s σ H acc Q I h=>by
 refine joinParts_cons (thn (he pins s σ H _ I h) fun u s1 ⟨v,H1,I1,r,y,e1,hl,q⟩=>?_)
 subst e1
 obtain ⟨tk,rfl⟩:=r
 exact ⟨hl,hj pins s1 σ H1 _ Q I1 q⟩
theorem d7 (he:PE X e te):PE X (.FormattedValue e (-1) none pos) (J4 te):=fun pins s σ H Q I h=>by
 refine FormattedValue_plain (thn (he pins s σ H _ I h) fun u s1 ⟨v,H1,I1,r,q⟩=>?_)
 rcases q with ⟨y,rfl,hl,q⟩ | ⟨i,rfl,hl,q⟩
 ·obtain ⟨tk,rfl⟩:=r
  exact formatField_str (fun t' tk=>⟨.str y,H1,I1.tok _,⟨t',rfl⟩,q⟩) hl
 ·obtain ⟨tk,rfl⟩:=r
  exact formatField_int_small hl ⟨.str (toString i),H1,I1.tok _,⟨_,rfl⟩,q⟩
theorem eE (hj:PJ X (e :: e2 :: es) tj):PE X (.JoinedStr (e :: e2 :: es) pos) (fun σ H Q=>tj σ H Str.empty Q):=fun pins s σ H Q I h=>JoinedStr_many (hj pins s σ H Str.empty Q I h)
end
end L2
namespace L2
open PySem PySem.Spec PyProof.Rows
structure cM (P:Program) (w:World) (K:PySem.W.Frag) (mg:Str→Option Value) (base:Heap) (x:Str) (k:Nat) (ps:List Str) (sp:Sp):Prop where
 ex:∃ (f:Addr) (fd:FuncData),m9 P w K mg base (CX1 P w) k f fd ps sp∧Binds K fd ps []∧PySem.W.keepIn K (.ref f)=true∧mg x=some (.ref f)
section
variable {P:Program} {w:World} {K:PySem.W.Frag} {mg:Str→Option Value} {base:Heap} {x:Str} {ps:List Str} {sp:Sp}
theorem Has.mk1 {st:Stmt} {N:List Str} {k:Nat} (h:Has K mg x st ps) (S:aK N ps (aC st)) (len:∀ vs H Q E,sp vs H Q E→vs.length=ps.length)
  (hbody:∀ (f:Addr) (cdv:Value) (A:Around) (outer:List Env) (s:Shared) (H:Hp) (vs:List V) (Q:VK) (E:XK),jw k (A.deeper (envOfC x (aC st) s.heap.objs.size f cdv))→sp vs H Q E →
   ∃ t,PSs (uK (CX1 P w) P w K mg base N x (aC st) f cdv A outer s H E) (eF st) t∧t { nx:=fun _ H'=>Q .non H',rt:=Q } (start N vs) H):cM P w K mg base x (k+1) ps sp:=by
 obtain ⟨f,fd,F,b,m⟩:=h.ex
 obtain ⟨oc,od,kV,doc,pm,an,cdv,ct,osl,rfl,lk,hcd⟩:=F.ex
 exact ⟨f,_,JG lk hcd S len fun A outer s H vs Q E hr hsp=>hbody f cdv A outer s H vs Q E hr hsp,b,F.kp,m⟩
end
def gB (CX:CXT) (X:Cx) (E:St→XK):Prop:=∀ (pins:List (Addr × Obj)) (σ:St) (H:Hp) (s:Shared) (e:Value) (s':Shared),Inv X pins σ H s→CX X.stack H s (E σ) e s'→X.xe e s'
theorem Passes.s {CX:CXT} {X:Cx} {E:XK} (h:Passes CX X E):gB CX X fun _=>E:=h
def Eo (sp:Sp) (E:St→XK) (t:TA):TE:=fun σ H Q=>t σ H fun vs H1=>sp vs H1 Q (E σ)
theorem aW {X:Cx} {x:Str} {k n:Nat} {ps:List Str} {sp:Sp} {E:St→XK} {e:Expr} {es:List Expr} {t:TA} {p pos:Pos} (C:cM X.prog X.w X.K X.mg X.base x k ps sp) (hr:jw n X.A) (hk:k≤n) (hg:Gl X x) (hx:gB (CX1 X.prog X.w) X E) (ha:PA X (e :: es) t)
  (hdb:(x == ("__debug__" : Str))=false:=by decide) (he:starEach (e :: es) X.env=(false,eval e X.env) :: starEach es X.env:=by rfl) (hpl:(backTo pos (starEach es X.env)).any (·.1)=false:=by rfl) :
  PE X (.Call (.Name x p) (e :: es) [] pos) (Eo sp E t):=by
 obtain ⟨f,fd,F,b,kp,m⟩:=C.ex
 intro pins s σ H Q I h
 refine wpAny_Call_Name_kw (kj I hg m ?_ hdb)
 refine PySem.W.callWith_K (h₀:=X.base) I.ok.mod.kin kp (thn (ha pos pins s σ H _ I h) fun us s1 ⟨vs,H1,I1,r,q⟩=>⟨I1.kIn,?_⟩) he hpl
 have hl:us.length=ps.length:=by rw [← r.length]; exact F.len _ _ _ _ q
 refine wpAny_call (codeAny_mono ((F.mono hk).run X.A X.stack s1 H1 ⟨us,[]⟩ us vs Q (E σ) hr I1.env0 (by have:=b s1 us I1.kIn (by rw [List.append_nil]; exact hl); rw [List.append_nil] at this; exact this) r q) fun r s' hq=>?_)
 cases r with
 | error e=>exact hx pins σ H1 s1 e s' I1 hq
 | ok fl =>
  cases fl with
  | ret u=>exact I1.after hq
  | next=>exact False.elim hq
  | brk=>exact False.elim hq
  | cont=>exact False.elim hq
end L2
namespace L2
open PySem PySem.Spec PyProof.Rows
abbrev XR:=Value→Addr→St→Hp→Prop
def K4 (X:Cx) (pins:List (Addr × Obj)) (R:XR) (e:Value) (s:Shared):Prop:=∃ (ea T:Addr) (cls:Value) (σ:St) (H:Hp),e=.ref ea∧T≠ea∧Inv X pins σ H s∧H ea=some (lQ cls T ea)∧H T=some (TrO T)∧R cls ea σ H
abbrev nJ (X:Cx) (pins:List (Addr × Obj)) (R:XR):Cx:={ X with pn:=X.pn++pins,xe:=K4 X pins R }
section
variable {X:Cx} {pins more:List (Addr × Obj)} {σ:St} {H:Hp} {s:Shared} {R:XR}
theorem Ld (ok:X.Ok):(nJ X pins R).Ok:=⟨ok.mod,ok.kind,ok.glob,ok.blt,ok.above,ok.inj,ok.has,ok.cab,ok.hd,ok.frames,ok.stk,ok.exf,ok.bs,ok.bsz,ok.noex,ok.exfs,ok.funs,ok.frf⟩
theorem Fw (ok:(nJ X pins R).Ok):X.Ok:=⟨ok.mod,ok.kind,ok.glob,ok.blt,ok.above,ok.inj,ok.has,ok.cab,ok.hd,ok.frames,ok.stk,ok.exf,ok.bs,ok.bsz,ok.noex,ok.exfs,ok.funs,ok.frf⟩
theorem Inv.toTry (I:Inv X pins σ H s):Inv (nJ X pins R) [] σ H s:=⟨Ld I.ok,I.os,I.bare,I.base,I.loc,I.cell,I.free,I.freeC,fun p hp=>I.pin p (by
 have hp':p∈(X.pn++pins)++[]:=hp
 rw [List.append_nil] at hp'; exact hp'),I.hok,I.len⟩
theorem Inv.ofTry (I:Inv (nJ X pins R) more σ H s):Inv X pins σ H s:=⟨Fw I.ok,I.os,I.bare,I.base,I.loc,I.cell,I.free,I.freeC,fun p hp=>I.pin p (List.mem_append_left _ hp),I.hok,I.len⟩
theorem SP.ofTry {D:Ends} {f:Flow} {s':Shared} (h:SP (nJ X pins R) [] D f s'):SP X pins D f s':=by
 cases f with
 | next=>obtain ⟨σ',H',I,q⟩:=h; exact ⟨σ',H',I.ofTry,q⟩
 | brk=>obtain ⟨σ',H',I,q⟩:=h; exact ⟨σ',H',I.ofTry,q⟩
 | cont=>obtain ⟨σ',H',I,q⟩:=h; exact ⟨σ',H',I.ofTry,q⟩
 | ret u=>obtain ⟨v,σ',H',I,r,q⟩:=h; exact ⟨v,σ',H',I.ofTry,r,q⟩
theorem Gv:gB (CX1 X.prog X.w) (nJ X pins R) (fun σ cls o H'=>∀ e,o=some e→R cls e σ H'):=by
 intro more σ H s e s' I h
 obtain ⟨ea,T,cls,H',rfl,hTe,os,bare,un,ok,he,hT,q⟩:=h
 exact ⟨ea,T,cls,σ,H',rfl,hTe,I.ofTry.call' (ch:=[]) os un ok bare fun b z=>absurd z (by simp),he,hT,q ea rfl⟩
theorem uM {M:Model} {ea T:Addr} {cls:Value} {E:Value→Shared→Prop} {Q:Unit→Shared→Prop} (I:Inv X pins σ H s) (hst:X.stack=X.env :: X.outer) (hf:X.env.frame=some X.env.locals) (hTe:T≠ea) (he:H ea=some (lQ cls T ea)) (hT:H T=some (TrO T))
  (h:∀ s' T',Inv X pins σ (xH H T' ea cls) s'→T'≠ea→H T'=none→Q () s'):wpAny M X.A (noteFrame (.ref ea) X.env) (fun _ s'=>wpAny M X.A (setFlight (.ref ea) none) Q E s') E s:=by
 have a1:ExcAt cls T ea s.heap:=(I.hok ea _ he).1
 have a2:lG T s.heap:=(I.hok T _ hT).1
 have hl:=I.stack
 have hfr:=I.ok.frames
 have hfree:=I.stkFree
 rw [hst] at hl hfr hfree
 refine qR (L:=X.env.locals) hfr hl hf a1 a2 hTe fun h1 h' T' k1 k2 x=>?_
 have kn:∀ b,h1.get? b=none→s.heap.get? b=none:=fun b q=>by
  by_cases hb:b=T
  ·subst hb
   obtain ⟨oT,_,z,_⟩:=k2
   rw [z] at q; cases q
  ·rw [← k1 b hb]; exact q
 obtain ⟨u,ok'⟩:=x.un (P:=X.prog) (w:=X.w) (T0:=T) (H:=H) (h0:=s.heap) I.hok hfree (fun b o q hb=>by rw [k1 b hb]; exact q) kn (fun o _=>⟨T,he⟩) (.inr ⟨hT,k2⟩)
 exact h _ T' (I.call' (ch:=[]) (s':={ s with heap:=h' }) rfl (by rw [hst]; exact u) ok' I.bare fun b z=>absurd z (by simp)) x.ne (I.hok.new (kn T' x.new))
theorem tK {M:Model} {A:Around} {ea T:Addr} {cls:Value} {E:Value→Shared→Prop} {Q:Unit→Shared→Prop} (I:Inv X pins σ H s) (he:H ea=some (lQ cls T ea)) (hT:H T=some (TrO T))
  (h:∀ s',Inv X pins σ H s'→Q () s'):wpAny M A (setFlight (.ref ea) none) Q E s:=by
 obtain ⟨oe,vs,a0,he1,_,hd,h0,h1⟩:ExcAt cls T ea s.heap:=(I.hok ea _ he).1
 obtain ⟨oT,ts,hT1,hdT,h3⟩:lG T s.heap:=(I.hok T _ hT).1
 have hsz3:3 < ts.size:=(Array.getElem?_eq_some_iff.mp h3).1
 unfold setFlight
 refine wpAny_bind (wpAny_field he1 hd h1 ?_)
 rw [if_pos (show (Value.ref T != Value.none)=true from by simp)]
 have hup:upd H T (TrO T)=H:=by
  funext b
  unfold upd
  split
  ·rename_i e; subst e; exact hT.symm
  ·rfl
 have mT:lG T (s.heap.update T (Obj.mapFields (·.setIfInBounds 3 ((none:Option Addr).elim Value.none fun f=>rawInt f)))) :=
  ⟨_,_,Heap.get?_update_self _ hT1 (Obj.isFreed_of_fields (Obj.data_mapFields hdT _)),Obj.data_mapFields hdT _,by simp [hsz3]⟩
 refine wpAny_setField hT1 hdT hsz3 (h _ ?_)
 have W:=I.write (x:=T) (e:=T) (o:=TrO T) (t':=s.toks) (h':=s.heap.update T (Obj.mapFields (·.setIfInBounds 3 ((none:Option Addr).elim Value.none fun f=>rawInt f)))) (by rw [hT]; trivial) (.inl rfl)
  (fun b u hb q=>(Heap.get?_update_other _ _ (Ne.symm hb)).trans q) (by obtain ⟨o,_,z,_⟩:=mT; exact ⟨o,z⟩) (zT mT)
 rw [hup] at W
 exact W
end
end L2
namespace L2
open PySem PySem.Spec PyProof.Rows
abbrev Gx (X:Cx) (e:Addr):Cx:={ X with A:=X.A.mark (some (.ref e)),calm:=false,xe:=fun _ _=>False }
section
variable {X:Cx} {pins:List (Addr × Obj)} {σ:St} {H:Hp} {s:Shared} {e:Addr}
theorem Nv (ok:X.Ok):(Gx X e).Ok:=⟨ok.mod,ok.kind,ok.glob,ok.blt,ok.above,ok.inj,ok.has,ok.cab,(fun z=>Bool.noConfusion (show false=true from z)),ok.frames,ok.stk,ok.exf,ok.bs,ok.bsz,ok.noex,ok.exfs,ok.funs,ok.frf⟩
theorem Inv.toEx (I:Inv X pins σ H s):Inv (Gx X e) pins σ H s:=⟨Nv I.ok,I.os,I.bare,I.base,I.loc,I.cell,I.free,I.freeC,I.pin,I.hok,I.len⟩
theorem Inv.ofEx (hk:X.Ok) (I:Inv (Gx X e) pins σ H s):Inv X pins σ H s:=⟨hk,I.os,I.bare,I.base,I.loc,I.cell,I.free,I.freeC,I.pin,I.hok,I.len⟩
theorem jQ {M:Model} {A:Around} {n:Str} {i:Nat} {pos:Pos} {E:Value→Shared→Prop} {Q:Unit→Shared→Prop} (I:Inv X pins σ H s) (hN:X.N.Nodup) (hi:X.N[i]?=some n) (hl:X.env.kindOf n=some .local)
  (h:∀ s',Inv X pins (σ.set i none) H s'→Q () s'):wpAny M A (do bindName X.env n .none; unbindBehindTheSuite X.env n pos) Q E s:=by
 obtain ⟨m,hn,hm⟩:=id I.loc
 have hcls:(X.env.scope.kind == .class || (X.env.scope.kind == .module && X.env.locals != X.env.globals))=false:=by rw [I.ok.kind]; rfl
 have hiσ:i < σ.length:=by rw [I.len]; exact (List.getElem?_eq_some_iff.mp hi).1
 refine wpAny_nameGoes_keeps hl hn hcls fun h' v hn' hs=>h _ ?_
 have ab:∀ b o,X.s₀.heap.get? b=some o→b≠X.env.locals:=fun b o e=>Nat.ne_of_lt (Nat.lt_of_lt_of_le (Heap.lt_size e) I.ok.above)
 refine ⟨I.ok,I.os,I.bare,⟨fun b o e n hb hx=>(hs.2 b (ab b o e)).trans (I.base.keep b o e n hb hx),fun b o e n hb hx=>?_,I.base.free,fun b o e hx=>?_,I.base.tups,I.base.frzs,I.base.tbls⟩,⟨_,hn',fun j y v' e1 e2 e3=>?_⟩,fun y c e=>?_,I.free,I.freeC,fun p hp=>?_,fun b ob e=>?_,by simpa using I.len⟩
 ·obtain ⟨sl,e1⟩:=I.base.slot b o e n hb hx
  exact ⟨sl,(hs.2 b (ab b o e)).trans e1⟩
 ·obtain ⟨o',e1⟩:=I.base.there b o e hx
  exact ⟨o',(hs.2 b (ab b o e)).trans e1⟩
 ·have hj:j≠i:=fun z=>by
   subst z
   rw [List.getElem?_set_self hiσ] at e2
   cases e2
  rw [List.getElem?_set_ne (Ne.symm hj)] at e2
  obtain ⟨u',r',q⟩:=hm j y v' e1 e2 e3
  refine ⟨u',r',?_⟩
  rcases q with ⟨k,e⟩ | ⟨k,c,e,z⟩
  ·refine .inl ⟨k,?_⟩
   have:y≠n:=fun e=>hj (pI hN e1 (e ▸ hi))
   simp [this,e]
  ·exact .inr ⟨k,c,e,z.sameBut hs (I.cne y c e)⟩
 ·obtain ⟨w',z⟩:=I.cell y c e
  exact ⟨w',z.sameBut hs (I.cne y c e)⟩
 ·obtain ⟨e,n,ne,nf,d⟩:=I.pin p hp
  exact ⟨(hs.2 p.1 ne).trans e,n,ne,nf,d⟩
 ·refine (I.hok b ob e).stay (fun c w' hc q=>(hs.2 c ?_).trans q) (fun _ q=>q) fun _ _ q=>q
  rintro rfl
  rcases hc with rfl | hc
  ·have:=I.free; rw [e] at this; cases this
  ·have:=I.free; rw [hc] at this; cases this
end
structure Under (K:PySem.W.Frag) (D:Addr) (cls:Value):Prop where
 ex:∃ C,cls=.ref C∧PySem.W.subIn K (.ref C) (.ref D)=some true
theorem nO {M:Model} {A:Around} {E:Value→Shared→Prop} {K:PySem.W.Frag} {h:Heap} {g:Array GenState} {d:Drawn} {t:Nat} {os:OsState} {e C D:Addr} {oe:Obj} {x:Str} {mg:Str→Option Value} {Q:Bool→Shared→Prop}
  (X:K.In h) (O:OwnCls x D vBm "ValueError.__new__" mg h) (he:h.get? e=some oe) (hcls:oe.cls=.ref C) (hs:PySem.W.subIn K (.ref C) (.ref D)=some true)
  (hq:Q true ⟨h,g,d,t,os⟩):wpAny M A (excMatches (.ref e) (.ref D)) Q E ⟨h,g,d,t,os⟩:=by
 obtain ⟨_,bm,N,nm,q,bs,hdct,sn,sub,ab,col,dd,k0,k1,k2,k3,k5,mN,hC,hN,hni,T⟩:=O
 have hb:bm.contains (.type "BaseException")=true:=T.hasType (by decide)
 have hcB:(Value.ref D :: bm).contains (.type "BaseException")=true:=by rw [List.contains_cons,hb,Bool.or_true]
 have f:=tc_notTuple
 have L4:PySem.W.Looks M h (isSubtype (.ref C) (.ref D)) true:=PySem.W.looks_subIn X hs
 unfold excMatches
 repeat (first | (with_reducible refine wpAny_loadPart_at he ?_; rw [hcls]) | with_reducible refine wpAny_loadPart_at hC ?_ | (with_reducible refine wpAny_isSubtype_exc hC ?_; rw [hcB]) | (with_reducible refine L4.at ?_) | wp_step)
 exact hq
end L2
namespace L2
open PySem PySem.Spec PyProof.Rows
def DY (i:Nat) (D:Ends):Ends:={ nx:=fun σ H=>D.nx (σ.set i none) H,rt:=D.rt,bk:=fun σ H=>D.bk (σ.set i none) H,ct:=fun σ H=>D.ct (σ.set i none) H }
def rEx (K:PySem.W.Frag) (W:Addr) (i:Nat) (th:TS) (D:Ends):XR:=fun cls ea σ H=>Under K W cls∧∀ T',T'≠ea→H T'=none→th (DY i D) (σ.set i (some (.ref ea))) (xH H T' ea cls)
def MF (K:PySem.W.Frag) (W:Addr) (i:Nat) (tb:XR→TS) (th:TS):TS:=fun D σ H=>tb (rEx K W i th D) D σ H
theorem zV {X:Cx} {x n:Str} {i:Nat} {W:Addr} {body suite:List Stmt} {b₀:Stmt} {tb:XR→TS} {th:TS} {np hpos pos:Pos} (hb:∀ pins R,PSs (nJ X pins R) body (tb R)) (hs:∀ e,PSs (Gx X e) (b₀ :: suite) th)
  (hg:Gl X x) (hm:X.mg x=some (.ref W)) (hq:PySem.W.excIn X.K W vBm "ValueError.__new__" = true) (hN:X.N.Nodup) (hi:X.N[i]?=some n) (hl:X.env.kindOf n=some .local) (hst:X.stack=X.env :: X.outer) (hf:X.env.frame=some X.env.locals)
  (hdb:(x == ("__debug__" : Str))=false:=by decide) :
  PS X (.Try body [.ExceptHandler (some (.Name x np)) (some n) (b₀ :: suite) hpos] [] [] pos) (MF X.K W i tb th):=by
 intro pins s σ H D I h
 refine wpAny_Try_except (wpAny_mono (hb pins (rEx X.K W i th D) [] s σ H D I.toTry h) (fun f s1 q=>?_) fun e s1 q=>?_)
 ·have q':=SP.ofTry q
  cases f with
  | next=>exact wpAny_execs_nil q'
  | brk=>exact q'
  | cont=>exact q'
  | ret u=>exact q'
 ·obtain ⟨ea,T,cls,σ1,H1,rfl,hTe,I1,he,hT,⟨C,rfl,hsub⟩,q⟩:=q
  refine uM I1 hst hf hTe he hT fun s2 T' I2 hT'e hT'n=>?_
  have he2:xH H1 T' ea (.ref C) ea=some (lQ (.ref C) T' ea):=ak
  have hT2:xH H1 T' ea (.ref C) T'=some (TrO T'):=Kl hT'e
  obtain ⟨oe,vs,a0,he3,hcls,hd3,_⟩:ExcAt (.ref C) T' ea s2.heap:=(I2.hok ea _ he2).1
  refine wpAny_handleBy_cons (codeAny_handlers_test (kj (X:=Gx X ea) I2.toEx hg hm ?_ hdb)) (by intro z; cases z)
  refine nO (x:=x) (mg:=X.mg) I2.kIn (zQ I2.kIn hm hq) he3 hcls hsub ?_
  refine codeAny_handlers_suite_as ?_
  refine tK (X:=Gx X ea) I2.toEx he2 hT2 fun s3 I3=>?_
  refine lJ (X:=Gx X ea) (i:=i) (v:=.ref ea) I3 hN hi (.inl hl) rfl (fun s4 I4=>?_) (.inr hl)
  refine wpAny_mono (hs ea pins s4 _ _ (DY i D) I4 (q T' hT'e hT'n)) (fun f s5 q5=>?_) fun _ _ z=>False.elim z
  cases f with
  | next =>
   obtain ⟨σ',H',J,q6⟩:=q5
   exact jQ (J.ofEx I2.ok) hN hi hl fun s6 J6=>⟨_,_,J6,q6⟩
  | brk =>
   obtain ⟨σ',H',J,q6⟩:=q5
   exact jQ (J.ofEx I2.ok) hN hi hl fun s6 J6=>⟨_,_,J6,q6⟩
  | cont =>
   obtain ⟨σ',H',J,q6⟩:=q5
   exact jQ (J.ofEx I2.ok) hN hi hl fun s6 J6=>⟨_,_,J6,q6⟩
  | ret u =>
   obtain ⟨v,σ',H',J,r,q6⟩:=q5
   exact jQ (J.ofEx I2.ok) hN hi hl fun s6 J6=>⟨v,_,_,J6,r,q6⟩
end L2
namespace L2
open PySem PySem.Spec PySem.Calls PyProof.Rows PySem.W Builtin.Getset_descriptor
section
variable {prog:Program} {w:World} {A:Around} {E:Value→Shared→Prop} {K:Frag} {x C D:Addr} {ox:Obj} {h:Heap} {g:Array GenState} {d:Drawn} {t:Nat} {os:OsState}
structure vp (h:Heap) (x:Addr) (ox:Obj) (D:Addr):Prop where
 at_:h.get? x=some ox
 cls:ox.cls=.ref D
theorem vp.type {M:Model} (I:vp h x ox D):Looks M h (typeOf (.ref x)) (.ref D):=I.cls ▸ (Looks.ld I.at_).andThen .now
theorem CQ {R:Result→Shared→Prop} {tp:Value} (X:K.In h) (I:vp h x ox D) (hm:mroIn K D (.type "object")=some true)
  (hq:R (.ok (.ret (.ref D))) ⟨h,g,d,t,os⟩):codeAny (model prog w) A (.call (.builtin "getset_descriptor.__get__") ⟨[.builtin "object.__class__",.ref x,tp],[]⟩) R ⟨h,g,d,t,os⟩:=by
 have L0:=I.type (M:=model prog w)
 have L1:=looks_mroIn (M:=model prog w) X hm
 refine codeAny_call_builtin KF.slot_gs.plain KF.entry_gs (KF.slot_gs.check _ _ _ _ _ _ _ _ KF.type_class (KF.args_gs _ _ _) ?_)
 unfold Builtin.«getset_descriptor.__get__» descrGet
 rw [dga_obj]
 refine wpAny_bind (wpAny_pure ?_)
 unfold descrGetter descrCheckInstance descrNameAndClass isInstance
 simp only [KF.owner_class]
 repeat lk
 refine ⟨Code.quiet_builtin _ (by decide +kernel),codeAny_builtin KF.entry_class ?_⟩
 unfold Builtin.«object.__class__» shownTypeOf
 repeat lk
 exact hq
structure Dp (K:Frag) (D:Addr):Prop where
 ga:findIn K (.ref D) "__getattribute__" = some (some (.builtin "BaseException.__getattribute__"))
 no:findIn K (.ref D) "__getattr__" = some none
 cl:findIn K (.ref D) "__class__" = some (some (.builtin "object.__class__"))
 bs:subIn K (.ref D) (.type "BaseException")=some true
 ob:mroIn K D (.type "object")=some true
 is:isClsIn K D=true
theorem zc {tk:Tok} {Q:Fin→Shared→Prop} (X:K.In h) (k:Dp K D) (I:vp h x ox D) (hq:Q (.done (.ret (.ref D))) ⟨h,g,d,t,os⟩) :
  wpAny (model prog w) A (Builtin.«object.__getattribute__» ⟨[.ref x,.str "__class__" tk],[]⟩) Q E ⟨h,g,d,t,os⟩:=by
 have hx:=I.at_
 have hc:=I.cls
 have L1:Looks (model prog w) h (typeLookup (.ref D) "__class__") (some (.builtin "object.__class__")):=looks_findIn X k.cl
 have f5:=PySem.W.KF.type_class
 have f6:=F.slot_gs_get.lookup
 have f7:=F.slot_gs_set.lookup
 have hT5:(⟨h,g,d,t,os⟩:Shared).TypeIs (.builtin "object.__class__") "getset_descriptor":=PySem.W.KF.type_class
 repeat (any_goals (first | assumption | (with_reducible refine wpAny_loadPart_at hx ?_; rw [hc]) | (with_reducible refine L1.at ?_) | wp_step))
 refine CQ (ox:=ox) X I k.ob ?_
 repeat (any_goals (first | assumption | wp_step))
theorem Bc {nameV:Value} {Q:Unit→Shared→Prop} (X:K.In h) (k:Dp K D) (I:vp h x ox D) (hq:Q () ⟨h,g,d,t,os⟩):wpAny (model prog w) A (checkBuiltinCall "BaseException.__getattribute__" ⟨[.ref x,nameV],[]⟩) Q E ⟨h,g,d,t,os⟩:=by
 have hx:=I.at_
 have hc:=I.cls
 have hk:builtinKind "BaseException.__getattribute__" = some .slot:=by decide +kernel
 have hsplit:splitId "BaseException.__getattribute__" = some ("BaseException", "__getattribute__"):=by decide +kernel
 have L1:Looks (model prog w) h (isSubtype (.ref D) (.type "BaseException")) true:=looks_subIn X k.bs
 have ha:=F.args_bexc_ga (.ref x) nameV
 simp only [checkBuiltinCall,hk,hsplit]
 refine wpAny_bind ?_
 ·unfold isInstance
  repeat (first | (with_reducible refine wpAny_loadPart_at hx ?_; rw [hc]) | (with_reducible refine L1.at ?_) | wp_step)
  exact hq
theorem Il {tk:Tok} {Q:Value→Shared→Prop} (X:K.In h) (k:Dp K D) (I:vp h x ox D) (hq:Q (.ref D) ⟨h,g,d,t,os⟩):wpAny (model prog w) A (getAttrBy (.ref x) (.str "__class__" tk) false) Q E ⟨h,g,d,t,os⟩:=by
 have hx:=I.at_
 have hc:=I.cls
 have f3:=F.excAttr_ValueError.ga.bind (.ref x)
 have hx0:(false && onTheHeap (Value.builtin "BaseException.__getattribute__"))=false:=rfl
 have hx2:(Value.builtin "BaseException.__getattribute__" == Value.builtin "object.__getattribute__")=false:=by decide +kernel
 have hx1:(onTheHeap (Value.ref D) && Value.builtin "BaseException.__getattribute__" == Value.builtin "object.__getattribute__")=false:=by rw [hx2]; rfl
 have L1:Looks (model prog w) h (typeLookup (.ref D) "__getattribute__") (some (.builtin "BaseException.__getattribute__")):=looks_findIn X k.ga
 have L2:Looks (model prog w) h (typeLookup (.ref D) "__getattr__") none:=looks_findIn X k.no
 repeat (any_goals (first | assumption | (with_reducible refine wpAny_loadPart_at hx ?_; rw [hc]) | (with_reducible refine L1.at ?_) | (with_reducible refine L2.at ?_) | wp_step))
 refine codeAny_call_builtin F.excAttr_ValueError.ga.plain F.entry_bexc_ga (Bc X k I (zc X k I ?_))
 repeat (any_goals (first | assumption | wp_step))
theorem Dn {Q:Option Value→Shared→Prop} (X:K.In h) (k:Dp K D) (I:vp h x ox D) (hq:Q (some (.ref D)) ⟨h,g,d,t+1,os⟩):wpAny (model prog w) A (getAttr? (.ref x) "__class__") Q E ⟨h,g,d,t,os⟩:=by
 unfold getAttr? getAttrBy?
 refine wpAny_bind (wpAny_mkText (wpAny_bind (wpAny_attempt (Il X k I ?_))))
 exact wpAny_pure hq
theorem uo {s:Shared} {c:Value} {dep:Int} {tk:Tok} {Q:Fin→Shared→Prop} (X:K.In s.heap) (k:Dp K D) (I:vp s.heap x ox D) (hty:Looks (model prog w) s.heap (typeOf c) (.type "type")) (his:Looks (model prog w) s.heap (isType c) true)
  (hne:(Value.ref D == c)=false) (hsub:Looks (model prog w) s.heap (isSubtype (.ref D) c) false) (h:Q (.done (.ret (.bool false))) { s with toks:=s.toks+1 }) :
  wpAny (model prog w) A (Builtin.«isinstance.nested» ⟨[.ref x,c,.int dep tk],[]⟩) Q E s:=by
 have hisD:Looks (model prog w) s.heap (isType (.ref D)) true:=by
  have hcD:=k.is
  unfold isClsIn clsIn at hcD
  split at hcD
  ·rename_i ho
   intro A' Q' E' s' kk q
   unfold isType loadHead
   exact wpAny_bind (wpAny_loadPart (kk _ _ (X _ _ ho)) (wpAny_pure q))
  ·cases hcD
 obtain ⟨h0,g,d,tt,os⟩:=s
 have L0:=I.type (M:=model prog w)
 have LI:Looks (model prog w) h0 (isInstance (.ref x) c) false:=L0.andThen hsub
 unfold Builtin.«isinstance.nested»
 refine wpAny_bind (L0.at ?_)
 rw [if_neg (fun q=>by rw [hne] at q; exact Bool.noConfusion q)]
 refine wpAny_bind (hty.at ?_)
 rw [if_pos (by decide)]
 k_delta "plainIsInstance"
 refine wpAny_bind (wpAny_bind (his.at ?_))
 simp only [Bool.not_true,Bool.false_eq_true,if_false]
 refine wpAny_bind (LI.at ?_)
 simp only [Bool.false_eq_true,if_false]
 refine wpAny_bind (Dn X k I ?_)
 refine wpAny_bind (hisD.at ?_)
 simp only [Bool.not_true,Bool.false_eq_true,if_false]
 refine wpAny_bind (wpAny_rule ?_)
 refine hsub.at ?_
 first
  | exact wpAny_pure h
  | exact wpAny_pure (wpAny_pure h)
  | exact wpAny_bind (wpAny_pure (wpAny_pure h))
theorem yF {s:Shared} {Q:Value→Shared→Prop} (X:K.In s.heap) (k:Dp K D) (I:vp s.heap x ox D) (e:kin_not K D C=true) (h:Q (.bool false) { s with toks:=s.toks+1 }) :
  wpAny (model prog w) A (call (.builtin "isinstance") [.ref x,.ref C]) Q E s:=by
 unfold kin_not at e
 rw [Bool.and_eq_true,Bool.and_eq_true,Bool.and_eq_true] at e
 obtain ⟨⟨⟨e0,e1⟩,e2⟩,e3⟩:=e
 refine call_isinstance (S:=fun _ R s=>(K.In s.heap∧vp s.heap x ox D)∧R (.ok (.ret (.bool false))) { s with toks:=s.toks+1 })
  (fun _ _ _ _ _ hs=>isinstance_outer (uo hs.1.1 k hs.1.2 (looks_typeIn hs.1.1 (beq_iff_eq.mp e2)) ?_ ?_ (looks_subIn hs.1.1 (beq_iff_eq.mp e3)) hs.2) (by intro q; cases q)) ⟨⟨X,I⟩,h⟩
 ·have X':=hs.1.1
  unfold clsIn at e1
  split at e1
  ·rename_i ho
   intro A' Q' E' s' kk q
   unfold isType loadHead
   exact wpAny_bind (wpAny_loadPart (kk _ _ (X' _ _ ho)) (wpAny_pure q))
  ·cases e1
 ·exact Bool.eq_false_iff.mpr fun q=>of_decide_eq_true e0 (Value.ref.inj (beq_iff_eq.mp q))
theorem uN {s:Shared} {T:String} {dep:Int} {tk:Tok} {Q:Fin→Shared→Prop} (X:K.In s.heap) (I:vp s.heap x ox D) (hty:typeOf (.type T)=pure (.type "type")) (hs:subIn K (.ref D) (.type T)=some true)
  (h:Q (.done (.ret (.bool true))) s):wpAny (model prog w) A (Builtin.«isinstance.nested» ⟨[.ref x,.type T,.int dep tk],[]⟩) Q E s:=by
 obtain ⟨h0,g,d,tt,os⟩:=s
 have L0:=I.type (M:=model prog w)
 have hsub:Looks (model prog w) h0 (isSubtype (.ref D) (.type T)) true:=looks_subIn X hs
 have LI:Looks (model prog w) h0 (isInstance (.ref x) (.type T)) true:=L0.andThen hsub
 have hty':Looks (model prog w) h0 (typeOf (.type T)) (.type "type"):=Looks.of_pure hty
 have his:Looks (model prog w) h0 (isType (.type T)) true:=Looks.of_pure rfl
 unfold Builtin.«isinstance.nested»
 refine wpAny_bind (L0.at ?_)
 rw [if_neg (fun q=>by cases beq_iff_eq.mp q)]
 refine wpAny_bind (hty'.at ?_)
 rw [if_pos (by decide)]
 k_delta "plainIsInstance"
 refine wpAny_bind (wpAny_bind (his.at ?_))
 simp only [Bool.not_true,Bool.false_eq_true,if_false]
 refine wpAny_bind (LI.at ?_)
 simp only [if_true]
 first
  | exact wpAny_pure h
  | exact wpAny_pure (wpAny_pure h)
  | exact wpAny_bind (wpAny_pure (wpAny_pure h))
theorem yh {s:Shared} {T:String} {Q:Value→Shared→Prop} (X:K.In s.heap) (I:vp s.heap x ox D) (hty:typeOf (.type T)=pure (.type "type")) (e:subIn K (.ref D) (.type T)=some true) (h:Q (.bool true) s) :
  wpAny (model prog w) A (call (.builtin "isinstance") [.ref x,.type T]) Q E s :=
 call_isinstance (S:=fun _ R s=>(K.In s.heap∧vp s.heap x ox D)∧R (.ok (.ret (.bool true))) s)
  (fun _ _ _ _ _ hs=>isinstance_outer (uN hs.1.1 hs.1.2 hty e hs.2) (by intro q; cases q)) ⟨⟨X,I⟩,h⟩
end
theorem wO {K:Frag} {D C:Addr} (hn:D≠C) (hc:isClsIn K C=true) (ht:typeIn K (.ref C)=some (.type "type")) (hs:subIn K (.ref D) (.ref C)=some false):kin_not K D C=true:=by
 unfold kin_not
 unfold isClsIn at hc
 rw [decide_eq_true hn,hc,ht,hs]
 rfl
def IsX (K:Frag) (D:Addr) (c:V) (b:Bool):Prop:=(∃ C,c=.ref C∧((b=true∧isIn K (.ref D) C=true)∨(b=false∧Dp K D∧kin_not K D C=true)))∨(∃ T,c=.ty T∧b=true∧typeOf (.type T)=pure (.type "type")∧subIn K (.ref D) (.type T)=some true)
def Nk (K:Frag):List V→Hp→VK→Prop:=fun xs H Q=>∃ e T D c b,xs=[.ref e,c]∧H e=some (lQ (.ref D) T e)∧IsX K D c b∧Q (.bl b) H
theorem cA {X:Cx}:jt X (.builtin "isinstance") (Nk X.K):=by
 intro pins s σ H xs us Q I r h
 obtain ⟨e,T,D,c,b,rfl,he,k,q⟩:=h
 obtain ⟨u,v,rfl,ru,rv⟩:=vals2 r
 cases ru
 obtain ⟨oe,vs,a0,h1,h2,_⟩:ExcAt (.ref D) T e s.heap:=(I.hok e _ he).1
 have O:vp s.heap e oe D:=⟨h1,h2⟩
 rcases k with ⟨C,rfl,⟨rfl,k⟩ | ⟨rfl,k1,k2⟩⟩ | ⟨Ty,rfl,rfl,k1,k2⟩
 ·cases rv
  exact isi_call I.kIn (fun M=>O.type) k (fun z=>nomatch z) ⟨.bl true,H,I,rfl,q⟩
 ·cases rv
  exact yF I.kIn k1 O k2 ⟨.bl false,H,I.tok _,rfl,q⟩
 ·cases rv
  exact yh I.kIn O k1 k2 ⟨.bl true,H,I,rfl,q⟩
end L2
namespace L2
open PySem PySem.Spec PyProof.Rows
def JX (E:XK):XK:=fun cls o H'=>∀ e,o=some e→∀ T',H' T'=none→E cls o (xH H' T' e cls)
theorem bB {P:Program} {w:World} {K:PySem.W.Frag} {mg:Str→Option Value} {base:Heap} {N:List Str} {qual:Str} {scope:Scope} {f:Addr} {cd:Value} {A:Around} {outer:List Env} {s0:Shared} {H0:Hp} {E:XK} :
  gB (CX1 P w) (uK (CX1 P w) P w K mg base N qual scope f cd A outer s0 H0 E) fun _=>JX E:=(G7 (JX E) fun cls e T H' _ h T' n=>h e rfl T' n).s
def aZ (C:Addr) (H:Hp) (E:XK):Prop:=∀ (e T:Addr) (H':Hp),Same H H'→H e=none→H' e=some (lQ (.ref C) T e)→E (.ref C) (some e) H'
theorem sX {H H1:Hp} {T e:Addr} {cls:Value} (s:Same H H1) (he:H e=none) (hT:H1 T=none):Same H (xH H1 T e cls):=fun b o h=>by
 have hbe:b≠e:=fun z=>by subst z; rw [he] at h; cases h
 have hbT:b≠T:=fun z=>by subst z; rw [s _ _ h] at hT; cases hT
 show upd (upd H1 T (TrO T)) e (lQ cls T e) b=some o
 rw [aG hbe,aG hbT]; exact s b o h
section
variable {C:Addr} {H H1:Hp} {E:XK}
theorem aZ.up (h:aZ C H E) (s:Same H H1):aZ C H1 E:=fun e T H' s' he hx=>h e T H' (s.trans s') (s.free he) hx
theorem aZ.made (h:aZ C H E) {e T:Addr} (he:H e=none) (hT:H T=none):E (.ref C) (some e) (xH H T e (.ref C)):=h e T _ (sX (Same.refl H) he hT) he ak
theorem aZ.out (h:aZ C H E):aZ C H (JX E):=fun e T H' s he hx e' z T' n=>by
 cases z
 exact h e T' _ (sX s he n) he ak
theorem wV {R:XR} {σ:St} (h:∀ (e T:Addr) (H':Hp),Same H H'→H e=none→H' e=some (lQ (.ref C) T e)→R (.ref C) e σ H'):aZ C H (fun cls o H'=>∀ e,o=some e→R cls e σ H'):=fun e T H' s he hx e' z=>by
 cases z
 exact h e T H' s he hx
end
structure Fn1 (P:Program) (w:World) (K:PySem.W.Frag) (mg:Str→Option Value) (base:Heap) (f:Addr) (k:Nat) (ps:List Str) (sp:Sp):Prop where
 ex:∃ (fd:FuncData),m9 P w K mg base (CX1 P w) k f fd ps sp∧Binds K fd ps []∧PySem.W.keepIn K (.ref f)=true
theorem cM.fn {P:Program} {w:World} {K:PySem.W.Frag} {mg:Str→Option Value} {base:Heap} {x:Str} {k:Nat} {ps:List Str} {sp:Sp} (C:cM P w K mg base x k ps sp):∃ f,mg x=some (.ref f)∧Fn1 P w K mg base f k ps sp:=by
 obtain ⟨f,fd,F,b,kp,m⟩:=C.ex
 exact ⟨f,m,fd,F,b,kp⟩
def J9 (P:Program) (w:World) (K:PySem.W.Frag) (mg:Str→Option Value) (base:Heap) (n i:Nat) (E:St→XK) (t:TA):TE:=fun σ H Q=>∃ (f:Addr) (k:Nat) (ps:List Str) (sp:Sp),σ[i]?=some (some (.ref f))∧Fn1 P w K mg base f k ps sp∧k≤n∧t σ H fun vs H1=>sp vs H1 Q (E σ)
theorem Ga {X:Cx} {x:Str} {n i:Nat} {E:St→XK} {e:Expr} {es:List Expr} {t:TA} {p pos:Pos} (hr:jw n X.A) (hv:PE X (.Name x p) (xr i)) (hx:gB (CX1 X.prog X.w) X E) (ha:PA X (e :: es) t)
  (he:starEach (e :: es) X.env=(false,eval e X.env) :: starEach es X.env:=by rfl) (hpl:(backTo pos (starEach es X.env)).any (·.1)=false:=by rfl) :
  PE X (.Call (.Name x p) (e :: es) [] pos) (J9 X.prog X.w X.K X.mg X.base n i E t):=by
 intro pins s σ H Q I h
 obtain ⟨f,k,ps,sp,hσ,⟨fd,F,b,kp⟩,hk,h⟩:=h
 refine wpAny_Call_Name_kw (thn (hv pins s σ H (fun v H'=>v=.ref f∧H'=H) I ⟨_,hσ,rfl,rfl⟩) fun u s0 ⟨v,H0,I0,r0,e1,e2⟩=>?_)
 subst e1 e2
 cases r0
 refine PySem.W.callWith_K (h₀:=X.base) I0.ok.mod.kin kp (thn (ha pos pins s0 σ H0 _ I0 h) fun us s1 ⟨vs,H1,I1,r,q⟩=>⟨I1.kIn,?_⟩) he hpl
 have hl:us.length=ps.length:=by rw [← r.length]; exact F.len _ _ _ _ q
 refine wpAny_call (codeAny_mono ((F.mono hk).run X.A X.stack s1 H1 ⟨us,[]⟩ us vs Q (E σ) hr I1.env0 (by have:=b s1 us I1.kIn (by rw [List.append_nil]; exact hl); rw [List.append_nil] at this; exact this) r q) fun r s' hq=>?_)
 cases r with
 | error e=>exact hx pins σ H1 s1 e s' I1 hq
 | ok fl =>
  cases fl with
  | ret u=>exact I1.after hq
  | next=>exact False.elim hq
  | brk=>exact False.elim hq
  | cont=>exact False.elim hq
abbrev M7 (R:XR):St→XK:=fun σ cls o H'=>∀ e,o=some e→R cls e σ H'
theorem Du {X:Cx} {pins:List (Addr × Obj)} {R:XR} {x:Str} {k n:Nat} {ps:List Str} {sp:Sp} {e:Expr} {es:List Expr} {t:TA} {p pos:Pos} (C:cM X.prog X.w X.K X.mg X.base x k ps sp) (hr:jw n X.A) (hk:k≤n) (hg:Gl X x) (ha:PA (nJ X pins R) (e :: es) t)
  (hdb:(x == ("__debug__" : Str))=false:=by decide) (he:starEach (e :: es) X.env=(false,eval e X.env) :: starEach es X.env:=by rfl) (hpl:(backTo pos (starEach es X.env)).any (·.1)=false:=by rfl) :
  PE (nJ X pins R) (.Call (.Name x p) (e :: es) [] pos) (Eo sp (M7 R) t):=aW (X:=nJ X pins R) C hr hk hg Gv ha hdb he hpl
theorem uf {X:Cx}:gB (CX1 X.prog X.w) X fun _ _ _ _=>False:=fun _ _ _ _ _ _ _ h=>by
 obtain ⟨_,_,_,_,_,_,_,_,_,_,_,_,q⟩:=h
 exact q.elim
end L2
namespace L2
open PySem PySem.Spec PyProof.Rows
section
variable {prog:Program} {w:World} {A:Around} {E:Value→Shared→Prop} {s:Shared}
end
end L2
namespace L2
open PySem PySem.Spec PyProof.Rows
def Mq (F:List (Str × List Str)):List (Str × KTD.Dat):=F.map fun p=>(p.1,.tup (p.2.map PyData.str))
def Lw (K:PySem.W.Frag) (t:Addr) (F:List (Str × List Str)):Prop:=KTD.tabLook (KTD.datLooks fun b=>K.lookup b) (fun b=>K.lookup b) t (Mq F)=true
theorem Lw.here {K:PySem.W.Frag} {t:Addr} {F:List (Str × List Str)} {h:Heap} (k:Lw K t F) (X:K.In h):KTD.Here h h t (Mq F):=⟨PySem.W.kt_text_in X k,fun _ _ e=>e⟩
section
variable {prog:Program} {w:World} {A:Around} {E:Value→Shared→Prop} {s:Shared}
end
end L2
namespace L2
open PySem PySem.Spec PyProof.Rows
inductive Th where
 | non | bl (b:Bool) | int (i:Int) | str (x:Str) | tup (ts:List Th) | lst | dct
mutual
def ThV (K:PySem.W.Frag) (B:List Addr) (H:Hp):V→Th→Prop
 | v,.non=>v=.non
 | v,.bl b=>v=.bl b
 | v,.int i=>v=.int i
 | v,.str x=>v=.str x∧x.length≤1000
 | v,.tup ts=>∃ (p:Addr) (vs:List V),v=.ref p∧SqT K H p vs∧ThL K B H vs ts
 | v,.lst=>∃ (p:Addr) (vs:List V),v=.ref p∧p ∉ B∧H p=some (.lst vs)
 | v,.dct=>∃ (p:Addr) (kvs:List (Key × V)),v=.ref p∧p ∉ B∧H p=some (.dK kvs)
def ThL (K:PySem.W.Frag) (B:List Addr) (H:Hp):List V→List Th→Prop
 | [],[]=>True
 | v :: vs,t :: ts=>ThV K B H v t∧ThL K B H vs ts
 | _,_=>False
end
section
variable {K:PySem.W.Frag} {B:List Addr} {H H':Hp}
theorem Df {a:Addr} {xs:List V} (e:∀ (b:Addr) (o:HO),H b=some o→(∀ ys,o≠.lst ys)→(∀ ys,o≠.dK ys)→H' b=some o) (h:SqT K H a xs):SqT K H' a xs:=by
 rcases h with (h | ⟨o,h⟩) | h
 ·exact .inl (.inl (e _ _ h (fun _ z=>nomatch z) (fun _ z=>nomatch z)))
 ·exact .inl (.inr ⟨o,e _ _ h (fun _ z=>nomatch z) (fun _ z=>nomatch z)⟩)
 ·exact .inr h
mutual
theorem ThV.keep (e:∀ (b:Addr) (o:HO),H b=some o→(∀ ys,o≠.lst ys)→(∀ ys,o≠.dK ys)→H' b=some o) (f:∀ (b:Addr) (o:HO),b ∉ B→H b=some o→H' b=some o):∀ {t:Th} {v:V},ThV K B H v t→ThV K B H' v t
 | .non,_,h=>h
 | .bl _,_,h=>h
 | .int _,_,h=>h
 | .str _,_,h=>h
 | .tup ts,_,h=>by
  obtain ⟨p,vs,rfl,hp,hd⟩:=h
  exact ⟨p,vs,rfl,Df e hp,ThL.keep e f hd⟩
 | .lst,_,h=>by
  obtain ⟨p,vs,rfl,hb,hp⟩:=h
  exact ⟨p,vs,rfl,hb,f _ _ hb hp⟩
 | .dct,_,h=>by
  obtain ⟨p,vs,rfl,hb,hp⟩:=h
  exact ⟨p,vs,rfl,hb,f _ _ hb hp⟩
theorem ThL.keep (e:∀ (b:Addr) (o:HO),H b=some o→(∀ ys,o≠.lst ys)→(∀ ys,o≠.dK ys)→H' b=some o) (f:∀ (b:Addr) (o:HO),b ∉ B→H b=some o→H' b=some o):∀ {ts:List Th} {vs:List V},ThL K B H vs ts→ThL K B H' vs ts
 | [],[],_=>trivial
 | _ :: _,_ :: _,h=>⟨ThV.keep e f h.1,ThL.keep e f h.2⟩
 | [],_ :: _,h=>h.elim
 | _ :: _,[],h=>h.elim
end
end
end L2
namespace L2
open PySem PySem.Spec PyProof.Rows
def Gu (H:Hp):V→Prop
 | .str x=>x.length≤1000
 | .non=>True
 | .bl _=>True
 | .int _=>True
 | .ref p=>(∃ xs,H p=some (.lst xs))∨(∃ xs,H p=some (.tup xs))∨∃ kvs,H p=some (.dK kvs)
 | _=>False
theorem Gu.lst {H:Hp} {l:Addr} {ys:List V}:∀ {v:V},Gu H v→∀ H':Hp,H' l=some (.lst ys)→(∀ c o,H c=some o→c≠l→H' c=some o)→Gu H' v
 | .str _,h,_,_,_=>h
 | .non,h,_,_,_=>h
 | .bl _,h,_,_,_=>h
 | .int _,h,_,_,_=>h
 | .ref p,h,H',e,s=>by
  by_cases hp:p=l
  ·subst hp
   exact .inl ⟨ys,e⟩
  ·rcases h with ⟨xs,e⟩ | ⟨xs,e⟩ | ⟨xs,e⟩
   ·exact .inl ⟨xs,s _ _ e hp⟩
   ·exact .inr (.inl ⟨xs,s _ _ e hp⟩)
   ·exact .inr (.inr ⟨xs,s _ _ e hp⟩)
 | .byt _,h,_,_,_=>h.elim
 | .flt _,h,_,_,_=>h.elim
 | .ty _,h,_,_,_=>h.elim
end L2
namespace L2
open PySem PySem.Spec PyProof.Rows
def notStar:Expr→Bool
 | .Starred ..=>false
 | _=>true
theorem yj {e:Expr} {es:List Expr} {env:Env} (h:notStar e=true):starEach (e :: es) env=(false,eval e env) :: starEach es env:=by
 cases e <;> first | rfl | cases h
theorem NK {X:Cx} {e:Expr} {es:List Expr} {te:TE} {t:TA} (ha:PE X e te) (hr:PA X es t) (h:notStar e=true:=by rfl):PA X (e :: es) (uy te t):=aj ha hr (yj h)
structure QSs (X:Cx) (st:List Stmt) (t:TS):Prop where
 h:PSs X st t
structure QS (X:Cx) (st:Stmt) (t:TS):Prop where
 h:PS X st t
structure QE (X:Cx) (e:Expr) (t:TE):Prop where
 h:PE X e t
structure QA (X:Cx) (es:List Expr) (t:TA):Prop where
 h:PA X es t
theorem Bv {X:Cx} {st:Stmt} {rest:List Stmt} {t u:TS} (h1:QS X st t) (h2:QSs X rest u):QSs X (st :: rest) (Ko t u):=⟨ao h1.h h2.h⟩
theorem Jx {X:Cx} {i:Nat} {x:Str} {e:Expr} {te:TE} {pos pos':Pos} (hN:X.N.Nodup) (hi:X.N[i]?=some x) (hx:Loc X.env.scope x) (he:QE X e te) (hs:swapsWith e (some (.Name x pos')) pos.line X.env=pure false:=by rfl)
  (hf:X.fn x=true∨X.env.scope.names.lookup x=some .local:=by first | exact .inl rfl | exact .inr rfl):QS X (.Assign [.Name x pos'] e pos) (JD te (qU i)):=⟨aH hN hi hx he.h hs hf⟩
theorem Ip {X:Cx} {es:List Expr} {t:TA} {pos:Pos} (h:QA X es t):QE X (.List es pos) (Mi t):=⟨aX h.h⟩
theorem Jm {X:Cx}:QA X [] GP:=⟨au⟩
theorem xY {X:Cx} {e:Expr} {es:List Expr} {te:TE} {t:TA} (ha:QE X e te) (hr:QA X es t) (h:notStar e=true:=by rfl):QA X (e :: es) (uy te t):=⟨NK ha.h hr.h h⟩
end L2
namespace L2
open PySem PySem.Spec PyProof.Rows
theorem Paired.app {α β:Type} {F:α→β→Prop}:∀ {as as':List α} {bs bs':List β},Paired F as bs→Paired F as' bs'→Paired F (as++as') (bs++bs')
 | _,_,_,_,.nil,h=>h
 | _,_,_,_,.cons r t,h=>.cons r (Paired.app t h)
def N6:V→List V→Hp→VK→Prop:=fun x xs H Q=>∃ (a b:Addr) (kvs kv2:List (Key × V)),x=.ref a∧xs=[.ref b]∧a≠b∧H a=some (.dK kvs)∧H b=some (.dK kv2)∧((kvs++kv2).map (·.1)).Nodup∧(kvs++kv2).length≤sizeLine∧Q .non (upd H a (.dK (kvs++kv2)))
theorem Al {X:Cx}:MtR X "dict.update" N6:=by
 intro pins s σ H x xs v us Q I rx r h
 obtain ⟨a,b,kvs,kv2,rfl,rfl,hab,ha,hb,hnd,hl,q⟩:=h
 cases rx
 obtain ⟨u,rfl,ru⟩:=vals1 r
 cases ru
 obtain ⟨z,hd,vs,rel,dd⟩:=Dh I.hok ha
 obtain ⟨z2,hd2,vs2,rel2,dd2⟩:=Dh I.hok hb
 have hnd':((vs++vs2).map (·.1)).Nodup:=by
  rw [List.map_append,← rel.keys,← rel2.keys,← List.map_append]
  exact hnd
 have hll:vs.length+vs2.length≤sizeLine:=by
  rw [← rel.length,← rel2.length,← List.length_append]
  exact hl
 refine call_meetsIn PySem.F.slot_dict_update dd.typeIs PySem.F.entry_dict_update (PySem.F.args_dict_update_2 _ _) (meets_dict_update (cR X.prog X.w) a b hab hd2) ⟨vs,vs2,dd,dd2,hll,fun h' dd' dd2' hs=>?_⟩
 have he:∃ q,h'.get? a=some q:=let ⟨q,_,_,hq,_⟩:=dd'; ⟨q,hq⟩
 rw [merged_append_of_fresh _ _ hnd'] at dd'
 exact ⟨.non,_,qj (t':=s.toks) I (by rw [ha]; exact True.intro) hs he (zU hl hd (Paired.app rel rel2) dd'),rfl,q⟩
end L2
namespace L2
open PySem PySem.Spec PyProof.Rows
structure QPs (X:Cx) (pos:Pos) (keys:List (Option Expr)) (values:List Expr) (trs:List (TE × TE)):Prop where
 h:PPs X pos keys values trs
end L2
namespace SO
open PySem PySem.W PyProof.Rows
section
variable {O:KeyOrd} {prog:Program} {w:World} {A:Around} {E:Value→Shared→Prop} {s:Shared}
end
end SO
namespace L2
open PySem PySem.Spec PyProof.Rows
end L2
namespace L2
open PySem PySem.Spec PyProof.Rows
theorem zu (a b:Value):argsOk "sum" ⟨[a,b],[]⟩:=by unfold argsOk; kernel_rfl
section
variable {prog:Program} {w:World} {A:Around} {R:Result→Shared→Prop} {I S:Addr} {fp wr:List Addr} {G:Array GenState→Array GenState→Prop} {n:Nat} {P:Nat→Value→Prop} {St:Nat→Shared→Prop}
theorem vC (W:WalksS prog w A.in1 I fp wr G n P St) (hSf:S ∉ fp) {i:Nat} {s:Shared} {T c:Nat} (hi:i < n) (hst:St i s) (hS:s.heap.get? S=some { cls:=.type "list",dict:=none,data:=.seq #[.ref T] c,slots:=#[] })
  (h:∀ v s',P i v→St (i+1) s'→Moved wr G s s'→wpAny (model prog w) A.in1 (binaryOp .Add (.ref T) v) (fun r s2=>∃ T',r=.ref T'∧(∃ h',s2={ s' with heap:=h' }∧∀ b o,s'.heap.get? b=some o→h'.get? b=some o) ∧
   ∀ (g:Heap) (c':Nat),(∀ b o,b≠S→s2.heap.get? b=some o→g.get? b=some o)→g.get? S=some { cls:=.type "list",dict:=none,data:=.seq #[.ref T'] c',slots:=#[] }→St (i+1) { s2 with heap:=g }→codeAny (model prog w) A (.builtin "sum.loop" ⟨[.ref I,.ref S,rawInt 2,rawInt 0],[]⟩) R { s2 with heap:=g }) (fun _ _=>False) s') :
  codeAny (model prog w) A (.builtin "sum.loop" ⟨[.ref I,.ref S,rawInt 2,rawInt 0],[]⟩) R s:=by
 have hSw:S ∉ wr:=fun h=>hSf (W.sub _ h)
 refine codeAny_builtin F.entry_sum_loop ?_
 rw [Around.under_plainId F.plain_sum_loop _]
 show wpAny _ A.in1 (seqItems? (.ref S) >>= _) _ _ s
 refine wpAny_bind (wpAny_seqItems hS rfl ?_)
 show wpAny _ A.in1 (tryCatch (pyNext (.ref I)) _ >>= _) _ _ s
 refine wpAny_bind (wpAny_tryCatch (W.item i s _ _ hi hst fun v s' hP hst' hm=>?_))
 have hS':=hm.heap S _ hSw hS
 show wpAny _ A.in1 ((holding [v] (binaryOp .Add (.ref T) v)).attempt >>= _) _ _ _
 refine wpAny_bind (wpAny_attempt (wpAny_holding (wpAny_mono (h v s' hP hst' hm) (fun r s2 hr=>?_) fun e s2 z=>z.elim)))
 obtain ⟨T',rfl,⟨h',rfl,hk⟩,hc⟩:=hr
 have hS2:=hk _ _ hS'
 show wpAny _ A.in1 (updateSeq S (fun _=>#[.ref T']) >>= _) _ _ _
 refine wpAny_bind (wpAny_updateSeq hS2 rfl ?_)
 have hS₂:=Heap.get?_update_self (Obj.mapSeq fun _=>#[Value.ref T']) hS2 rfl
 refine wpAny_bind (wpAny_letGo ?_)
 refine wpAny_bind (wpAny_updateSeq hS₂ rfl (wpAny_pure ⟨plainId_quiet F.plain_sum_loop _,?_⟩))
 refine hc _ _ (fun b o hb e=>?_) (Heap.get?_update_self _ hS₂ rfl) ?_
 ·exact (Heap.get?_update_other _ _ (fun h:S=b=>hb h.symm)).trans ((Heap.get?_update_other _ _ (fun h:S=b=>hb h.symm)).trans e)
 ·refine W.frame _ s' _ _ hst' (Nat.le_refl _) fun b hb o e=>?_
  exact (Heap.get?_update_other _ _ (fun h:S=b=>hSf (by rw [h]; exact hb))).trans ((Heap.get?_update_other _ _ (fun h:S=b=>hSf (by rw [h]; exact hb))).trans (hk _ _ e))
theorem Gk (W:WalksS prog w A.in1 I fp wr G n P St) (hSf:S ∉ fp) {s:Shared} {T c:Nat} (hst:St n s) (hS:s.heap.get? S=some { cls:=.type "list",dict:=none,data:=.seq #[.ref T] c,slots:=#[] })
  (h:∀ s',Moved wr G s s'→R (.ok (.ret (.ref T))) s') :
  codeAny (model prog w) A (.builtin "sum.loop" ⟨[.ref I,.ref S,rawInt 2,rawInt 0],[]⟩) R s:=by
 refine codeAny_builtin F.entry_sum_loop ?_
 rw [Around.under_plainId F.plain_sum_loop _]
 show wpAny _ A.in1 (seqItems? (.ref S) >>= _) _ _ s
 refine wpAny_bind (wpAny_seqItems hS rfl ?_)
 show wpAny _ A.in1 (tryCatch (pyNext (.ref I)) _ >>= _) _ _ s
 refine wpAny_bind (wpAny_tryCatch (W.done s _ _ hst fun s' hm=>?_))
 exact wpAny_pure (h s' hm)
end
end L2
namespace L2
open PySem PySem.Spec PyProof.Rows
section
variable {prog:Program} {w:World} {A:Around} {E:Value→Shared→Prop} {s:Shared}
theorem sum2 {l e p q:Addr} {xs ys:List Value} {Q:Value→Shared→Prop} (hh:A.handled=none) (hl:s.heap.IsList l #[.ref p,.ref q]) (he:IsTup s.heap e #[]) (hp:IsTup s.heap p xs.toArray) (hq:IsTup s.heap q ys.toArray) (hx:xs≠[]) (hy:ys≠[]) (hsz:xs.length+ys.length≤sizeLine)
  (h:∀ (h':Heap) (tk:Nat) (T:Addr),(∀ b o,s.heap.get? b=some o→h'.get? b=some o)→s.heap.objs.size≤T→IsTup h' T (xs++ys).toArray→Q (.ref T) { s with heap:=h',toks:=tk }) :
  wpAny (model prog w) A (call (.builtin "sum") [.ref l,.ref e]) Q E s:=by
 obtain ⟨oe,hoe,hce,ne,hde⟩:=id he
 obtain ⟨ol,hol,_⟩:=id hl
 have hlt:l < s.heap.objs.size:=Heap.lt_size hol
 refine call_function_tree F.kind_sum F.plain_sum F.entry_sum (zu _ _) ?_
 unfold Builtin.«sum»
 simp only [List.length_cons,List.length_nil]
 rw [if_neg (by decide)]
 refine wpAny_bind (wpAny_of_eq (show Builtin.Builtins.bindParams "sum" ["start"] 0 ⟨[.ref e],[]⟩=pure [some (.ref e)] from rfl) ?_)
 refine wpAny_bind (wpAny_pyIter_list hl ?_)
 have hte:∀ s':Shared,(∀ b o,s.heap.get? b=some o→s'.heap.get? b=some o)→s'.TypeIs (.ref e) "tuple":=fun s' k=>⟨oe,k _ _ hoe,hce⟩
 have k1:∀ b o,s.heap.get? b=some o→(s.heap.push { cls:=.type "list_iterator",data:=.fields #[.ref l,.int 0 0] }).get? b=some o:=fun b o e=>Heap.get?_push_of_some _ e
 refine wpAny_bind (wpAny_pure ?_)
 simp only [List.forIn_cons,List.forIn_nil]
 refine wpAny_bind (wpAny_bind (wpAny_bind (wpAny_isInstance (T:="tuple") (b:=false) (hte _ k1) PySem.F.sub_tuple_str ?_)))
 simp only [Bool.false_eq_true,if_false]
 refine wpAny_pure (wpAny_bind (wpAny_bind (wpAny_isInstance (T:="tuple") (b:=false) (hte _ k1) PySem.F.sub_tuple_bytes ?_)))
 simp only [Bool.false_eq_true,if_false]
 refine wpAny_pure (wpAny_bind (wpAny_bind (wpAny_isInstance (T:="tuple") (b:=false) (hte _ k1) PySem.F.sub_tuple_bytearray ?_)))
 simp only [Bool.false_eq_true,if_false]
 refine wpAny_pure (wpAny_pure ?_)
 refine wpAny_bind (wpAny_newObj_type ?_)
 have W:=(Walks.list (prog:=prog) (w:=w) (A:=A.in1) hh s.heap.objs.size l (Nat.ne_of_lt hlt) #[.ref p,.ref q]).toS
 have k2:∀ b o,s.heap.get? b=some o→((s.heap.push { cls:=.type "list_iterator",data:=.fields #[.ref l,.int 0 0] }).push { cls:=.type "list",data:=.seq #[.ref e] 0 }).get? b=some o:=fun b o e=>Heap.get?_push_of_some _ (k1 b o e)
 have hsz1:(s.heap.push { cls:=.type "list_iterator",data:=.fields #[.ref l,.int 0 0] }).objs.size=s.heap.objs.size+1:=by rw [Heap.size_push]
 generalize hS:(s.heap.push { cls:=.type "list_iterator",data:=.fields #[.ref l,.int 0 0] }).objs.size=S
 have hS1:S=s.heap.objs.size+1:=by rw [← hS,hsz1]
 have ltS:∀ b:Nat,b < s.heap.objs.size→b < S:=fun b hb=>by
  rw [hS1]
  exact Nat.lt_succ_of_lt hb
 have hIS:s.heap.objs.size < S:=by rw [hS1]; exact Nat.lt_succ_self _
 have hSf:S ∉ [s.heap.objs.size,l]:=fun z=>by
  simp only [List.mem_cons,List.not_mem_nil,or_false] at z
  rcases z with z | z
  ·exact Nat.ne_of_lt hIS z.symm
  ·exact Nat.ne_of_lt (ltS l hlt) z.symm
 have nI:∀ {b:Addr} {o:Obj},s.heap.get? b=some o→b ∉ [s.heap.objs.size]:=fun {b o} e z=>Nat.ne_of_lt (Heap.lt_size e) (List.mem_singleton.mp z)
 have nS:∀ {b:Addr} {o:Obj},s.heap.get? b=some o→b≠S:=fun {b o} e z=>Nat.ne_of_lt (ltS b (Heap.lt_size e)) z
 obtain ⟨⟨clsp,ddp,datap,slp⟩,hop,hcp,np,hdp⟩:=id hp
 obtain ⟨⟨clsq,ddq,dataq,slq⟩,hoq,hcq,nq,hdq⟩:=id hq
 obtain ⟨clse,dde,datae,sle⟩:=oe
 simp only at hcp hdp hcq hdq hce hde
 subst hcp hdp hcq hdq hce hde
 have hS0:((s.heap.push { cls:=.type "list_iterator",data:=.fields #[.ref l,.int 0 0] }).push { cls:=.type "list",data:=.seq #[.ref e] 0 }).get? S=some { cls:=.type "list",dict:=none,data:=.seq #[.ref e] 0,slots:=#[] }:=by
  rw [← hS]
  exact Heap.get?_push_size _ rfl
 have hI0:((s.heap.push { cls:=.type "list_iterator",data:=.fields #[.ref l,.int 0 0] }).push { cls:=.type "list",data:=.seq #[.ref e] 0 }).IsListIter s.heap.objs.size l 0:=⟨_,Heap.get?_push_of_some _ (Heap.get?_push_size _ rfl),rfl,rfl⟩
 refine wpAny_pure ⟨plainId_quiet F.plain_sum_loop _,?_⟩
 refine vC W hSf (i:=0) (T:=e) (c:=0) (by show 0 < 2; decide) ⟨hI0,hl.at fun o e=>k2 _ _ e⟩ hS0 fun v s1 hv st1 m1=>?_
 have ev:v=.ref p:=(Option.some.inj hv).symm
 subst ev
 have kA:∀ b o,s.heap.get? b=some o→s1.heap.get? b=some o:=fun b o e=>m1.heap b o (nI e) (k2 b o e)
 refine concat_meets ⟨_,kA _ _ hoe,rfl⟩ ⟨_,kA _ _ hop,rfl⟩ noFill_tuple_add seq_tuple_add PySem.F.slot_tuple_add PySem.F.entry_tuple_add (PySem.F.args_tuple_add_2 _ _) (tuple_addW0 e p _ xs.toArray ne np dde ddp sle slp rfl) ⟨kA _ _ hoe,kA _ _ hop,?_⟩
 refine ⟨p,rfl,⟨s1.heap,rfl,fun _ _ e=>e⟩,fun g c1 kg hg stg=>?_⟩
 have kB:∀ b o,s.heap.get? b=some o→g.get? b=some o:=fun b o e=>kg b o (nS e) (kA b o e)
 refine vC W hSf (i:=1) (T:=p) (c:=c1) (by show 1 < 2; decide) stg hg fun v s2 hv st2 m2=>?_
 have ev:v=.ref q:=(Option.some.inj hv).symm
 subst ev
 have kC:∀ b o,s.heap.get? b=some o→s2.heap.get? b=some o:=fun b o e=>m2.heap b o (nI e) (kB b o e)
 refine HT.Ag (hp.keeps kC) (hq.keeps kC) hx (fun z=>absurd z hy) (fun _=>?_) hsz
 refine ⟨s2.heap.objs.size,rfl,⟨_,rfl,fun b o e=>Heap.get?_push_of_some _ e⟩,fun g2 c2 kg2 hg2 stg2=>?_⟩
 have hSlt:S < s2.heap.objs.size:=Heap.lt_size (m2.heap S _ (fun z=>hSf (List.mem_cons.mpr (.inl (List.mem_singleton.mp z)))) hg)
 have hT:g2.get? s2.heap.objs.size=some { cls:=.type "tuple",data:=.seq (xs++ys).toArray }:=kg2 _ _ (fun z=>Nat.ne_of_lt hSlt z.symm) (Heap.get?_push_size _ rfl)
 refine Gk W hSf (T:=s2.heap.objs.size) (c:=c2) stg2 hg2 fun s3 m3=>?_
 have g1:=m1.gens
 have g2':=m2.gens
 have g3:=m3.gens
 have d1:=m1.drawn
 have d2:=m2.drawn
 have d3:=m3.drawn
 have o1:=m1.os
 have o2:=m2.os
 have o3:=m3.os
 have kD:∀ b o,s.heap.get? b=some o→s3.heap.get? b=some o:=fun b o e=>m3.heap b o (nI e) (kg2 b o (nS e) (Heap.get?_push_of_some _ (kC b o e)))
 have hT3:s3.heap.get? s2.heap.objs.size=some { cls:=.type "tuple",data:=.seq (xs++ys).toArray }:=m3.heap _ _ (fun z=>Nat.ne_of_lt (Nat.lt_trans hIS hSlt) (List.mem_singleton.mp z).symm) hT
 obtain ⟨h3,gg3,dd3,tk3,os3⟩:=s3
 have e1:gg3=s.gens:=by
  simp only at g1 g2' g3
  rw [g3,g2',g1]
 have e2:dd3=s.drawn:=by
  simp only at d1 d2 d3
  rw [d3,d2,d1]
 have e3:os3=s.os:=by
  simp only at o1 o2 o3
  rw [o3,o2,o1]
 subst e1 e2 e3
 exact h h3 tk3 s2.heap.objs.size kD (Nat.le_of_lt (Nat.lt_trans hIS hSlt)) ⟨_,hT3,rfl,_,rfl⟩
end
def Kw (K:PySem.W.Frag):List V→Hp→VK→Prop:=fun zs H Q=>∃ (l e p q:Addr) (xs ys:List V),zs=[.ref l,.ref e]∧SqL K H l [.ref p,.ref q]∧SqT K H e []∧SqT K H p xs∧SqT K H q ys∧xs≠[]∧ys≠[]∧xs.length+ys.length≤sizeLine∧∀ t,H t=none→Q (.ref t) (upd H t (.tup (xs++ys)))
theorem Ai {X:Cx} (hc:X.calm=true):jt X (.builtin "sum") (Kw X.K):=by
 intro pins s σ H zs us Q I r h
 obtain ⟨l,e,p,q,xs,ys,rfl,hl,he,hp,hq,hx,hy,hz,k⟩:=h
 obtain ⟨u,v,rfl,r1,r2⟩:=vals2 r
 cases r1
 cases r2
 obtain ⟨its,rv,pl,_⟩:=I.list hl
 obtain ⟨ie,re,pe,_⟩:=I.tuple he
 obtain ⟨ip,rp,pp,_⟩:=I.tuple hp
 obtain ⟨iq,rq,pq,_⟩:=I.tuple hq
 cases re
 cases rv with
 | cons ra rr =>
 cases ra
 cases rr with
 | cons rb rn =>
 cases rb
 cases rn
 refine sum2 (I.ok.hd hc) pl.isList pe pp pq (fun z=>hx (rp.nil_iff.mp z)) (fun z=>hy (rq.nil_iff.mp z)) (by rw [← rp.length,← rq.length]; exact hz) fun h' tk T kp hT ht=>?_
 refine ⟨.ref T,_,I.laid (t':=tk) (o:=.tup (xs++ys)) kp hT ?_,rfl,k T (I.hok.fresh hT)⟩
 exact ⟨by rw [List.length_append]; exact hz,_,rp.append rq,ht⟩
end L2
namespace L2
open PySem PySem.Spec PyProof.Rows
def TrM (T:Addr) (h:Heap):Prop:=∃ oT ts v,h.get? T=some oT∧oT.data=.fields ts∧ts[3]?=some v
theorem TrM.at_ {T:Addr} {h h':Heap} (x:TrM T h) (k:∀ o,h.get? T=some o→h'.get? T=some o):TrM T h':=let ⟨oT,ts,v,a,b⟩:=x; ⟨oT,ts,v,k _ a,b⟩
theorem lG.at_ {T:Addr} {h h':Heap} (x:lG T h) (k:∀ o,h.get? T=some o→h'.get? T=some o):lG T h':=let ⟨oT,ts,a,b⟩:=x; ⟨oT,ts,k _ a,b⟩
theorem ExcAt.at_ {cls:Value} {T e:Addr} {h h':Heap} (x:ExcAt cls T e h) (k:∀ o,h.get? e=some o→h'.get? e=some o):ExcAt cls T e h':=let ⟨oe,vs,a0,a,b⟩:=x; ⟨oe,vs,a0,k _ a,b⟩
structure Bq (fs:List Addr) (e:Addr) (cls:Value) (T T':Addr) (h h':Heap):Prop where
 keep:∀ b o,h.get? b=some o→b ∉ fs→b≠e→b≠T→h'.get? b=some o
 slot:∀ b o,h.get? b=some o→b∈fs→∃ sl,h'.get? b=some { o with slots:=sl }
 old:lG T h'
 new:h.get? T'=none
 ne:T'≠e
 exc:ExcAt cls T' e h'
 tr:TrM T' h'
section
variable {M:Model} {A:Around} {E:Value→Shared→Prop} {s:Shared} {base:Heap} {env:Env} {outer:List Env} {L e:Addr}
theorem sV {T:Addr} {h:Heap} {oT:Obj} {ts:Array Value} {v w:Value} (hT:h.get? T=some oT) (hd:oT.data=.fields ts) (h3:ts[3]?=some w) :
  (∀ b,b≠T→(h.update T (Obj.mapFields (·.setIfInBounds 3 v))).get? b=h.get? b)∧∃ o',(h.update T (Obj.mapFields (·.setIfInBounds 3 v))).get? T=some o'∧∃ us,o'.data=.fields us∧us[3]?=some v :=
 ⟨fun b hb=>Heap.get?_update_other _ _ (Ne.symm hb),_,Heap.get?_update_self _ hT (Obj.isFreed_of_fields (Obj.data_mapFields hd _)),_,Obj.data_mapFields hd _,by simp [(Array.getElem?_eq_some_iff.mp h3).1]⟩
theorem mV {T:Addr} {h h1:Heap} {ts:Array Value} {oT:Obj} {l:List Env} (hl:h.FunFrames base l) (hT:h.get? T=some oT) (hd:oT.data=.fields ts) (k:∀ b,b≠T→h1.get? b=h.get? b):h1.FunFrames base l :=
 hl.of_keeps fun b o hb hnf=>⟨o,(k b fun q=>by rw [q,hT] at hb; cases hb; exact hnf ts hd).trans hb,rfl⟩
theorem Cg {cls:Value} {T:Addr} {Q:Unit→Shared→Prop} (hfr:A.frames=some (env :: outer)) (hl:s.heap.FunFrames base (env :: outer)) (hf:env.frame=some L)
  (hx:ExcAt cls T e s.heap) (hT:lG T s.heap) (hTe:T≠e) (h:∀ h' T',Bq (frs (env :: outer)) e cls T T' s.heap h'→Q () { s with heap:=h' }):wpAny M A (noteFrame (.ref e) env) Q E s:=by
 obtain ⟨oe,vs,a0,he,hcls,hd,h0,h1⟩:=hx
 obtain ⟨oT,ts,hT,hdT,h3⟩:=hT
 unfold noteFrame
 simp only [hf]
 refine wpAny_bind (wpAny_field he hd h1 ?_)
 rw [if_pos (show (Value.ref T != Value.none)=true from by simp)]
 refine wpAny_bind (wpAny_field hT hdT h3 ?_)
 rw [if_neg (show ¬ ((Value.none == rawInt L)=true) from by simp [rawInt])]
 refine wpAny_bind (wpAny_setField hT hdT (Array.getElem?_eq_some_iff.mp h3).1 ?_)
 obtain ⟨m1,oM,m2,us,m3,m4⟩:=sV (v:=Value.none) hT hdT h3
 have hl1:=mV hl hT hdT m1
 generalize s.heap.update T (Obj.mapFields (·.setIfInBounds 3 Value.none))=hA at m1 m2 hl1
 have notF:∀ {b:Addr} {o:Obj} {xs:Array Value},hA.get? b=some o→o.data=.fields xs→b ∉ frs (env :: outer):=fun {b o xs} q d z=>by
  obtain ⟨_,o',ho',hnf⟩:=hl1.mem z
  rw [q] at ho'; cases ho'
  exact hnf xs d
 have heA:hA.get? e=some oe:=(m1 e (Ne.symm hTe)).trans he
 refine wpAny_bind (wpAny_frameOf_fun (s:={ s with heap:=hA }) hfr hl1 hf fun hB hs=>?_)
 refine wpAny_bind (wpAny_entryPlaceOf fun pl hpl=>?_)
 unfold EntryCells.newEntry newFields
 refine wpAny_bind (wpAny_newObj_type ?_ (hpl.sizeOk5 _ _ _ _ _))
 have heB:hB.get? e=some oe:=(hs.2.1 e (notF heA hd)).trans heA
 have hTB:hB.get? T=some oM:=(hs.2.1 T (notF m2 m3)).trans m2
 have hsz:1 < vs.size:=(Array.getElem?_eq_some_iff.mp h1).1
 generalize hN:({ cls:=Value.type "traceback",dict:=none,data:=.fields ([Value.ref T,.ref L,.none,rawInt L,.none]++(if pl.isEmpty then List.replicate 6 Value.none else pl)).toArray }:Obj)=oN
 have dN:oN.data=.fields ([Value.ref T,.ref L,.none,rawInt L,.none]++(if pl.isEmpty then List.replicate 6 Value.none else pl)).toArray:=by rw [← hN]
 have neN:hB.objs.size≠e:=Nat.ne_of_gt (Heap.lt_size heB)
 have neT:hB.objs.size≠T:=Nat.ne_of_gt (Heap.lt_size hTB)
 refine wpAny_setField (Heap.get?_push_of_some _ heB) hd hsz (h _ hB.objs.size ?_)
 have oth:∀ b o,b≠e→hB.get? b=some o→((hB.push oN).update e (Obj.mapFields (·.setIfInBounds 1 (Value.ref hB.objs.size)))).get? b=some o:=fun b o hb q=>by
  rw [Heap.get?_update_other _ _ (Ne.symm hb)]
  exact Heap.get?_push_of_some _ q
 have pN:(hB.push oN).get? hB.objs.size=some oN:=Heap.get?_push_size _ (by rw [← hN]; rfl)
 refine ⟨fun b o q hb hbe hbT=>oth b o hbe ((hs.2.1 b hb).trans ((m1 b hbT).trans q)),fun b o q hb=>?_,⟨oM,us,oth T oM hTe hTB,m3,m4⟩,?_,neN,?_,?_⟩
 ·obtain ⟨_,o',ho',hnf⟩:=hl.mem hb
  rw [q] at ho'; cases ho'
  have hbT:b≠T:=fun z=>by subst z; rw [q] at hT; cases hT; exact hnf ts hdT
  have hbe:b≠e:=fun z=>by subst z; rw [q] at he; cases he; exact hnf vs hd
  obtain ⟨sl,z⟩:=hs.2.2 b o ((m1 b hbT).trans q)
  exact ⟨sl,oth b _ hbe z⟩
 ·cases q:s.heap.get? hB.objs.size with
  | none=>rfl
  | some o =>
   have q2:hA.get? hB.objs.size=some o:=(m1 _ neT).trans q
   have:=Heap.lt_size q2
   rw [← hs.1] at this
   exact absurd this (Nat.lt_irrefl _)
 ·exact ⟨_,_,a0,Heap.get?_update_self _ (Heap.get?_push_of_some _ heB) (Obj.isFreed_of_fields (Obj.data_mapFields hd _)),(Obj.cls_mapFields _ _).trans hcls,Obj.data_mapFields hd _,by rw [Array.getElem?_setIfInBounds_ne (by decide)]; exact h0,by simp [hsz]⟩
 ·refine ⟨oN,_,rawInt L,?_,dN,by simp⟩
  rw [Heap.get?_update_other _ _ (Ne.symm neN)]
  exact pN
theorem wu {cls:Value} {T:Addr} {Q:Unit→Shared→Prop} (hfr:A.frames=some (env :: outer)) (hl:s.heap.FunFrames base (env :: outer)) (hf:env.frame=some L)
  (hx:ExcAt cls T e s.heap) (hT:TrM T s.heap) (hTe:T≠e)
  (h:∀ h1 h',(∀ b,b≠T→h1.get? b=s.heap.get? b)→lG T h1→(h'=h1∨∃ T',Left (frs (env :: outer)) e cls T' h1 h')→Q () { s with heap:=h' }):wpAny M A (leaving env (.ref e)) Q E s:=by
 obtain ⟨oe,vs,a0,he,hcls,hd,h0,h1⟩:=hx
 obtain ⟨oT,ts,v,hT,hdT,h3⟩:=hT
 subst hcls
 obtain ⟨m1,oM,m2,us,m3,m4⟩:=sV (v:=Value.none) hT hdT h3
 have hl1:=mV hl hT hdT m1
 unfold leaving noteFrame
 simp only [hf]
 refine wpAny_bind (wpAny_bind (wpAny_field he hd h1 ?_))
 rw [if_pos (show (Value.ref T != Value.none)=true from by simp)]
 refine wpAny_bind (wpAny_field hT hdT h3 ?_)
 by_cases hv:(v == rawInt L)=true
 ·rw [if_pos hv]
  refine wpAny_pure ?_
  refine wpAny_setFlight_none he hd h1 hT hdT (Array.getElem?_eq_some_iff.mp h3).1 ?_
  exact h _ _ m1 ⟨oM,us,m2,m3,m4⟩ (.inl rfl)
 ·rw [if_neg hv]
  refine wpAny_bind (wpAny_setField hT hdT (Array.getElem?_eq_some_iff.mp h3).1 ?_)
  refine wpAny_newEntryW (base:=PySem.W.hideAll (s.heap.update T (Obj.mapFields (·.setIfInBounds 3 Value.none))) (e :: frs (env :: outer))) hfr (iu hl1 fun b hb=>PySem.W.hideAll_none _ (List.mem_cons_of_mem _ hb)) hf ((m1 e (Ne.symm hTe)).trans he)
   (fun b o hb=>PySem.W.of_hideAll _ hb) (PySem.W.hideAll_none _ List.mem_cons_self) hd (Array.getElem?_eq_some_iff.mp h1).1 h0 fun h' x=>?_
  obtain ⟨T',y⟩:=uI (s:={ s with heap:=s.heap.update T (Obj.mapFields (·.setIfInBounds 3 Value.none)) }) hl1 x
  exact h _ h' m1 ⟨oM,us,m2,m3,m4⟩ (.inr ⟨T',y⟩)
end
theorem Bq.left {fs:List Addr} {e T T1:Addr} {cls:Value} {h h1 h2 h':Heap} (x:Bq fs e cls T T1 h h2) (hTf:T ∉ fs) (hTe:T≠e) (hT:∃ o,h.get? T=some o) (hT1f:T1 ∉ fs) (k1:∀ b,b≠T1→h1.get? b=h2.get? b) (k2:lG T1 h1) (y:h'=h1∨∃ T',Left fs e cls T' h1 h') :
  ∃ hh TF,(∀ b,b≠T→hh.get? b=h.get? b)∧lG T hh∧Left fs e cls TF hh h':=by
 obtain ⟨oT,ts,a1,a2,a3⟩:=x.old
 obtain ⟨o0,hT⟩:=hT
 have nTT:T≠T1:=fun z=>by have:=x.new; rw [← z,hT] at this; cases this
 have gT:(h.update T (fun _=>oT)).get? T=some oT:=Heap.get?_update_self _ hT (Obj.isFreed_of_fields a2)
 have gO:∀ b,b≠T→(h.update T (fun _=>oT)).get? b=h.get? b:=fun b hb=>Heap.get?_update_other _ _ (Ne.symm hb)
 have nz:∀ b o,h.get? b=some o→b≠T1:=fun b o q z=>by have:=x.new; rw [← z,q] at this; cases this
 have kk:∀ b o,(h.update T (fun _=>oT)).get? b=some o→b ∉ fs→b≠e→h1.get? b=some o:=fun b o q hb hbe=>by
  by_cases hbT:b=T
  ·subst hbT
   rw [gT] at q
   rw [k1 b nTT,a1]; exact q
  ·rw [gO b hbT] at q
   rw [k1 b (nz b o q)]
   exact x.keep b o q hb hbe hbT
 have ks:∀ b o,(h.update T (fun _=>oT)).get? b=some o→b∈fs→∃ sl,h1.get? b=some { o with slots:=sl }:=fun b o q hb=>by
  have hbT:b≠T:=fun z=>hTf (z ▸ hb)
  rw [gO b hbT] at q
  rw [k1 b (nz b o q)]
  exact x.slot b o q hb
 rcases y with rfl | ⟨T',y⟩
 ·refine ⟨_,T1,gO,⟨oT,ts,gT,a2,a3⟩,⟨kk,ks,?_,x.ne,x.exc.at_ fun o q=>by rw [k1 e (Ne.symm x.ne)]; exact q,k2⟩⟩
  rw [gO T1 (Ne.symm nTT)]; exact x.new
 ·refine ⟨_,T',gO,⟨oT,ts,gT,a2,a3⟩,⟨fun b o q hb hbe=>y.keep b o (kk b o q hb hbe) hb hbe,fun b o q hb=>?_,?_,y.ne,y.exc,y.tr⟩⟩
  ·obtain ⟨sl,z⟩:=ks b o q hb
   obtain ⟨sl',z'⟩:=y.slot b _ z hb
   exact ⟨sl',z'⟩
  ·cases q:(h.update T (fun _=>oT)).get? T' with
   | none=>rfl
   | some o =>
    exfalso
    have nn:=y.new
    by_cases hb:T'∈fs
    ·obtain ⟨sl,z⟩:=ks T' o q hb
     rw [nn] at z; cases z
    ·rw [kk T' o q hb y.ne] at nn; cases nn
def outV (E:XK):XK:=fun cls o H'=>∀ e,o=some e→∀ (T':Addr) (H2:Hp),(∀ b u,H' b=some u→b≠e→H2 b=some u)→H2 e=some (lQ cls T' e)→E cls o H2
theorem aZ.outV {C:Addr} {H:Hp} {E:XK} (h:aZ C H E):aZ C H (outV E):=fun e T H' s he hx e' z T' H2 k hx2=>by
 cases z
 exact h e T' H2 (fun b u q=>k b u (s b u q) fun z=>by subst z; rw [he] at q; cases q) he hx2
def Hv (X:Cx) (E:XK):Prop:=∀ (pins:List (Addr × Obj)) (σ:St) (H:Hp) (s:Shared) (ea T:Addr) (cls:Value) (T1:Addr) (h2:Heap),Inv X pins σ H s→T≠ea→H ea=some (lQ cls T ea)→H T=some (TrO T)→Bq (frs X.stack) ea cls T T1 s.heap h2 →
 outV E cls (some ea) H→X.xe (.ref ea) { s with heap:=h2 }
theorem Inv.notFr {X:Cx} {pins:List (Addr × Obj)} {σ:St} {H:Hp} {s:Shared} (I:Inv X pins σ H s) {b:Addr} {u:HO} (h:H b=some u):b ∉ frs X.stack:=fun z=>by
 rw [I.stkFree b z] at h; cases h
theorem Dy {P:Program} {w:World} {K:PySem.W.Frag} {mg:Str→Option Value} {base:Heap} {N:List Str} {qual:Str} {scope:Scope} {f:Addr} {cd:Value} {A:Around} {outer:List Env} {s0:Shared} {H0:Hp} {E:XK} :
  Hv (uK (CX1 P w) P w K mg base N qual scope f cd A outer s0 H0 E) E:=by
 intro pins σ H s ea T cls T1 h2 J hTe he hT lv q
 have a1:ExcAt cls T ea s.heap:=(J.hok ea _ he).1
 have a2:lG T s.heap:=(J.hok T _ hT).1
 obtain ⟨oT,ts,b1,b2,b3⟩:=a2
 obtain ⟨oe,vs,a0,c1,_,c3,_⟩:=a1
 have hl2:h2.FunFrames base (envOfC qual scope s0.heap.objs.size f cd :: outer):=J.stack.of_keeps fun b o hb hnf=>by
  by_cases hz:b∈frs (envOfC qual scope s0.heap.objs.size f cd :: outer)
  ·obtain ⟨sl,z⟩:=lv.slot b o hb hz
   exact ⟨_,z,rfl⟩
  ·exact ⟨o,lv.keep b o hb hz (fun z=>by subst z; rw [c1] at hb; cases hb; exact hnf vs c3) (fun z=>by subst z; rw [b1] at hb; cases hb; exact hnf ts b2),rfl⟩
 have fT1:T1 ∉ frs (envOfC qual scope s0.heap.objs.size f cd :: outer):=fun z=>by
  obtain ⟨_,o,ho,_⟩:=J.stack.mem z
  rw [lv.new] at ho; cases ho
 refine wu (s:={ s with heap:=h2 }) (L:=s0.heap.objs.size) J.ok.frames hl2 rfl lv.exc lv.tr lv.ne fun h1 h' k1 k2 y=>?_
 obtain ⟨hh,TF,g1,g2,x⟩:=lv.left (J.notFr hT) hTe ⟨oT,b1⟩ fT1 k1 k2 y
 have kn:∀ b,hh.get? b=none→s.heap.get? b=none:=fun b q=>by
  by_cases hb:b=T
  ·subst hb
   obtain ⟨oT,_,z,_⟩:=g2
   rw [z] at q; cases q
  ·rw [← g1 b hb]; exact q
 obtain ⟨u,ok'⟩:=x.un (P:=P) (w:=w) (T0:=T) (H:=H) (h0:=s.heap) J.hok J.stkFree (fun b o q hb=>by rw [g1 b hb]; exact q) kn (fun o _=>⟨T,he⟩) (.inr ⟨hT,g2⟩)
 have nF:H TF=none:=J.hok.new (kn TF x.new)
 exact ⟨ea,TF,cls,_,rfl,x.ne,J.os,J.bare,J.out rfl u,ok',ak,Kl x.ne,q ea rfl TF _ (fun b u q hb=>by
  show upd (upd H TF (TrO TF)) ea (lQ cls TF ea) b=some u
  rw [aG hb,aG (aD q nF)]; exact q) ak⟩
theorem G3 (h g:Heap) {C:Addr} {o0:Obj} (h0:h.get? C=some o0):∃ k:Heap,(∀ b,b≠C→k.get? b=h.get? b)∧k.get? C=g.get? C:=by
 cases q:g.get? C with
 | some o=>exact ⟨h.update C fun _=>o,fun b hb=>Heap.get?_update_other _ _ (Ne.symm hb),Heap.get?_update_self _ h0 (Heap.get?_some_iff.mp q).2⟩
 | none =>
  refine ⟨h.update C fun o=>{ o with data:=.freed },fun b hb=>Heap.get?_update_other _ _ (Ne.symm hb),?_⟩
  cases z:(h.update C fun o=>{ o with data:=.freed }).get? C with
  | none=>rfl
  | some o =>
   exfalso
   obtain ⟨e1,e2⟩:=Heap.get?_some_iff.mp z
   obtain ⟨e3,_⟩:=Heap.get?_some_iff.mp h0
   have:o={ o0 with data:=.freed }:=by
    cases h
    simp only [Heap.update,Array.getElem?_modify,if_true] at e1
    simp only at e3
    rw [e3] at e1
    exact (Option.some.inj e1).symm
   subst this
   cases e2
theorem Dj {X:Cx} {elt tg iter:Expr} {ifs:List Expr} {scope:Scope} {pos:Pos} {wi:TI} {g:TG} {tc:TT} {te:TE} {E0:XK} (hF:Hv X E0) (hst:X.stack=X.env :: X.outer) (hfl:X.env.frame=some X.env.locals) (N:List Str) (lift:St→St) (hc:X.calm=true) (hi:PI X tg iter wi)
  (hkind:scope.kind=.function) (hcell:∀ y∈scope.names,y.2≠.cell) (hfree:∀ y∈scope.names,y.2=.free→X.env.kindOf y.1=some .cell∨X.env.kindOf y.1=some .free)
  (hnames:∀ y∈scope.names,y.2=.local→scope.names.lookup y.1=some .local)
  (hlen:∀ σ:St,σ.length=X.N.length→(lift σ).length=N.length)
  (hσ:∀ (σ:St) (i:Nat) (x:Str) (v:V),σ.length=X.N.length→N[i]?=some x→(lift σ)[i]?=some (some v)→scope.names.lookup x=some .free∧∃ j:Nat,X.N[j]?=some x∧σ[j]?=some (some v))
  (hg:∀ cl C s H ex pn E,PG (bJ X scope N cl C s H ex pn E) tg g) (ht:∀ cl C s H ex pn E,Ei (bJ X scope N cl C s H ex pn E) ifs tc) (he:∀ cl C s H ex pn E,gB (CX1 X.prog X.w) (bJ X scope N cl C s H ex pn E) (fun _=>outV E0)→PE (bJ X scope N cl C s H ex pn E) elt te)
  (hs:∀ x,foldedSetIterable iter X.env x=pure x:=by intro _; rfl) :
  PE X (.ListComp elt [⟨tg,iter,ifs,0⟩] scope pos) (wg wi g tc te lift):=by
 intro pins s σ H Q I h
 rw [eval_ListComp]
 obtain ⟨cl,hclos,hcl1,hcl2⟩:=jY (scope:=scope) (env:=X.env) fun y hy hf=>I.ok.has y.1 (hfree y hy hf)
 refine wpAny_comprehension_free (use:=none) rfl hs hclos hkind hnames (thn (hi pins s σ H _ I h) fun v s1 h1=>thn h1 fun itv s2 h2=>?_)
 obtain ⟨it,fp,tn,J,H2,e,I2,T,st2,f2,q⟩:=h2
 subst e
 refine wpAny_newObj_type (wpAny_newFunctionEnv hcell (by intro y hy; simp at hy) (fun h₁ hns₁ hsb₁=>?_) hkind)
 have I3:Inv X pins σ (upd H2 s2.heap.objs.size (.lst [])) { s2 with heap:=s2.heap.push { cls:=.type "list",data:=.seq ([]:List Value).toArray } }:=I2.lnew (its:=[]) (t':=s2.toks) .nil (Nat.zero_le _)
 have fr:H2 s2.heap.objs.size=none:=I2.fresh
 have hold:∀ b o,(s2.heap.push { cls:=.type "list",data:=.seq ([]:List Value).toArray }).get? b=some o→h₁.get? b=some o:=fun b o e=>hsb₁.extBut b o (Nat.ne_of_lt (Heap.lt_size e)) (Heap.get?_push_of_some _ e)
 have f3:∀ b∈fp,wC X pins (upd H2 s2.heap.objs.size (.lst [])) b:=fun b hb=>by
  obtain ⟨o,eo,_⟩:=T.obj 0 _ st2 b hb
  exact ⟨by rw [aG (Nat.ne_of_lt (Heap.lt_size eo))]; exact (f2 b hb).1,(f2 b hb).2⟩
 have fo:∀ b∈fp,∃ o,(s2.heap.push { cls:=.type "list",data:=.seq ([]:List Value).toArray }).get? b=some o:=fun b hb=>by
  obtain ⟨o,eo,_⟩:=T.obj 0 _ st2 b hb
  exact ⟨o,Heap.get?_push_of_some _ eo⟩
 generalize hP:s2.heap.push { cls:=.type "list",data:=.seq ([]:List Value).toArray }=P at *
 obtain ⟨W,⟨m0,w0⟩,turn⟩:=q s2.heap.objs.size fr
 generalize hL:s2.heap.objs.size=L at *
 let R:Result→Shared→Prop:=compPost (model X.prog X.w) X.A X.xe none (EP X pins σ Q) (.ref L) P.objs.size
 let Y:Cx:=bJ X scope N cl P.objs.size { s2 with heap:=P } (upd H2 L (.lst [])) fp (X.pn++pins) (notedBy (model X.prog X.w) X.A (compEnvC scope cl P.objs.size X.env) fun e s'=>R (.error e) s')
 have IY:Inv Y [] (lift σ) (upd H2 L (.lst [])) { s2 with heap:=h₁,toks:=s2.toks+([]:List (Str × Value)).length } :=
  pC (s:={ s2 with heap:=P }) I3 hkind hcell hfree hcl1 hcl2 f3 fo (hlen σ I.len) (fun i x v=>hσ σ i x v I.len) hns₁ hold
 have stY:tn 0 h₁:=T.keep _ _ _ st2 fun b hb o e=>hold b o (by rw [← hP]; exact Heap.get?_push_of_some _ e)
 have fC:∀ b∈fp,b≠P.objs.size∧(b∈fp):=fun b hb=>by
  obtain ⟨o,eo⟩:=fo b hb
  exact ⟨Nat.ne_of_lt (Heap.lt_size eo),hb⟩
 have fpY:∀ {H':Hp},(∀ b∈fp,H' b=none)→∀ b∈fp,wC Y [] H' b:=fun {H'} hn b hb=>by
  refine ⟨hn b hb,(fC b hb).1,fun z=>?_,.inl hb,fun x c ex=>(f3 b hb).2.2.2.2.1 x c (hcl2 _ _ ex),fun p hp=>?_⟩
  ·rcases List.mem_cons.mp (I3.stkSub b z) with y | y
   ·exact (f3 b hb).2.1 y
   ·exact (f3 b hb).2.2.1 y
  ·have hp':p∈(X.pn++pins)++[]:=hp
   rw [List.append_nil] at hp'
   exact (f3 b hb).2.2.2.2.2 p hp'
 have ps:gB (CX1 X.prog X.w) Y (fun _=>outV E0):=by
  intro more σ' H1 s1 e s' I1 hx
  obtain ⟨ea,T,cls,H',rfl,hTe,os,bare,un,ok,he',hT,qx⟩:=hx
  have J:Inv Y more σ' H' s':=I1.call' (ch:=[]) os un ok bare fun b z=>absurd z (by simp)
  have a1:ExcAt cls T ea s'.heap:=(J.hok ea _ he').1
  have a2:lG T s'.heap:=(J.hok T _ hT).1
  have IX:Inv X pins σ H' s':=I3.call' (s':=s') (ch:=fp) J.os J.base J.hok J.bare fun b hb=>⟨(f3 b hb).2.2.2.1,(f3 b hb).2.1,(f3 b hb).2.2.2.2.1,(f3 b hb).2.2.2.2.2⟩
  obtain ⟨mC,nsC,_⟩:=id J.loc
  obtain ⟨oC,esC,epC,gC,dC,rC⟩:=id nsC
  have gC:s'.heap.get? P.objs.size=some oC:=gC
  have frX:=IX.ok.frames
  have flX:=IX.stack
  have fnX:∀ {b:Addr} {u:HO},H' b=some u→b ∉ frs (X.env :: X.outer):=fun {b u} q=>by rw [← hst]; exact IX.notFr q
  have cF:P.objs.size ∉ frs (X.env :: X.outer):=fun z=>by
   rw [← hst] at z
   obtain ⟨_,o,ho,_⟩:=I3.stack.mem z
   exact absurd (Heap.lt_size ho) (Nat.lt_irrefl _)
  rw [hst] at frX flX
  have cE:P.objs.size≠ea:=fun z=>by
   obtain ⟨oe,vs,a0,q,_,d,_⟩:=a1
   rw [← z] at q
   have:=gC.symm.trans q
   cases this
   rw [dC] at d; cases d
  have cT:P.objs.size≠T:=fun z=>by
   obtain ⟨oe,vs,q,d,_⟩:=a2
   rw [← z] at q
   have:=gC.symm.trans q
   cases this
   rw [dC] at d; cases d
  show wpAny (model X.prog X.w) X.A (noteFrame (.ref ea) X.env) (fun _ s''=>R (.error (.ref ea)) s'') _ s'
  refine Cg (base:=X.base) frX flX hfl a1 a2 hTe fun hN T1 lv=>?_
  have cT1:P.objs.size≠T1:=fun z=>by have:=lv.new; rw [← z] at this; rw [show s'.heap.get? P.objs.size=some oC from gC] at this; cases this
  have gN:hN.get? P.objs.size=some oC:=lv.keep _ oC gC cF cE cT
  refine ⟨mC,⟨oC,esC,epC,gN,dC,rC⟩,fun h' sb cenv _=>?_⟩
  have hk:∀ b o,b≠P.objs.size→hN.get? b=some o→h'.get? b=some o:=fun b o hb q=>(sb.2 b hb).trans q
  have x1:ExcAt cls T1 ea h':=lv.exc.at_ fun o q=>hk ea o (Ne.symm cE) q
  have x2:TrM T1 h':=lv.tr.at_ fun o q=>hk T1 o (Ne.symm cT1) q
  have x3:lG T h':=lv.old.at_ fun o q=>hk T o (Ne.symm cT) q
  obtain ⟨oe,vs,a0,e1,e2,e3,e4,e5⟩:=id x1
  obtain ⟨oT,ts,v,t1,t2,t3⟩:=x2
  obtain ⟨m1,oM,m2,us,m3,m4⟩:=sV (v:=cenv.frame.elim .none fun f=>rawInt f) t1 t2 t3
  unfold PySem.passOn
  refine wpAny_bind (wpAny_field (s:={ s' with heap:=h' }) e1 e3 e5 ?_)
  rw [if_neg (show ¬ ((Value.ref T1 == Value.none)=true) from by simp)]
  unfold setFlight
  refine wpAny_bind (wpAny_bind (wpAny_field (s:={ s' with heap:=h' }) e1 e3 e5 ?_))
  rw [if_pos (show (Value.ref T1 != Value.none)=true from by simp)]
  refine wpAny_setField (s:={ s' with heap:=h' }) t1 t2 (Array.getElem?_eq_some_iff.mp t3).1 (wpAny_throw ?_)
  generalize h'.update T1 (Obj.mapFields (·.setIfInBounds 3 (cenv.frame.elim .none fun f=>rawInt f)))=hZ at m1 m2
  have nT1:∀ b o,s'.heap.get? b=some o→b≠T1:=fun b o q z=>by have:=lv.new; rw [← z,q] at this; cases this
  obtain ⟨hC,c1,c2⟩:=G3 s'.heap h' gC
  have IC:Inv X pins σ H' { s' with heap:=hC }:=IX.turned (t':=s'.toks) (it:=P.objs.size) (fun b o hb q=>(c1 b hb).trans q) J.free (Nat.ne_of_gt I3.lt) (.inr I3.sz) (fun x c ec z=>by
   obtain ⟨v0,qv⟩:=I3.cell x c ec
   exact absurd qv.lt (by rw [z]; exact Nat.lt_irrefl _)) (fun p hp z=>by
   have z0:=Heap.lt_size (I3.pin p hp).1
   exact absurd z0 (by rw [z]; exact Nat.lt_irrefl _))
  refine hF pins σ H' { s' with heap:=hC } ea T cls T1 hZ IC hTe he' hT ?_ qx
  rw [hst]
  have go:∀ b o,s'.heap.get? b=some o→hN.get? b=some o→b≠P.objs.size→hZ.get? b=some o:=fun b o q q2 hb=>(m1 b (nT1 b o q)).trans (hk b o hb q2)
  refine ⟨fun b o q hb hbe hbT=>?_,fun b o q hb=>?_,?_,?_,lv.ne,?_,⟨oM,us,_,m2,m3,m4⟩⟩
  ·by_cases hbC:b=P.objs.size
   ·subst hbC
    have q':hC.get? P.objs.size=some o:=q
    rw [m1 _ cT1]; exact (show hC.get? P.objs.size=h'.get? P.objs.size from c2).symm.trans q'
   ·have q':s'.heap.get? b=some o:=(c1 b hbC).symm.trans q
    exact go b o q' (lv.keep b o q' hb hbe hbT) hbC
  ·have hbC:b≠P.objs.size:=fun z=>cF (z ▸ hb)
   have q':s'.heap.get? b=some o:=(c1 b hbC).symm.trans q
   obtain ⟨sl,z⟩:=lv.slot b o q' hb
   exact ⟨sl,(m1 b (nT1 b o q')).trans (hk b _ hbC z)⟩
  ·exact x3.at_ fun o q=>(m1 T (fun z=>by obtain ⟨oT0,_,w,_⟩:=a2; exact nT1 T oT0 w z)).trans q
  ·show hC.get? T1=none
   rw [c1 T1 (Ne.symm cT1)]; exact lv.new
  ·exact x1.at_ fun o q=>(m1 ea (Ne.symm lv.ne)).trans q
 have loop:∀ s4:Shared,s4={ s2 with heap:=h₁,toks:=s2.toks+([]:List (Str × Value)).length } →
   codeAny (model X.prog X.w) X.A (.compLoop (.ListComp elt [⟨tg,iter,ifs,0⟩] scope pos) 0 (.ref it) (.ref L) (compEnvC scope cl P.objs.size X.env)) R s4:=by
  rintro s4 rfl
  refine cU (fun n s'=>∃ i σ' H',Inv Y [] σ' H' s'∧tn i s'.heap∧(∀ b∈fp,H' b=none)∧W i n σ' H') ?_ m0 ⟨0,_,_,IY,stY,fun b hb=>(f3 b hb).1,w0⟩
  rintro n s5 ⟨i,σ5,H5,I5,st5,fr5,w5⟩
  rcases turn i n σ5 H5 w5 with ⟨stop,qn⟩ | ⟨go,Nx,hNx,step⟩
  ·refine thn (T.done Y rfl rfl rfl hc i [] s5 σ5 H5 Y.xe I5 (fpY fr5) st5 stop) fun r s6 ⟨hr,I6⟩=>?_
   subst hr
   show R (.ok .next) s6
   obtain ⟨m6,hn6,_⟩:=id I6.loc
   have IX:Inv X pins σ H5 s6:=I3.call' (s':=s6) (ch:=fp) I6.os I6.base I6.hok I6.bare fun b hb=>⟨(f3 b hb).2.2.2.1,(f3 b hb).2.1,(f3 b hb).2.2.2.2.1,(f3 b hb).2.2.2.2.2⟩
   refine ⟨m6,hn6,fun h' sb=>⟨.ref L,H5,IX.turned (t':=s6.toks) (it:=P.objs.size) (fun b o hb e=>(sb.2 b hb).trans e) I6.free (Nat.ne_of_gt I3.lt) (.inr I3.sz) (fun x c ec z=>?_) fun p hp z=>?_,rfl,qn⟩⟩
   ·obtain ⟨v0,qv⟩:=I3.cell x c ec
    exact absurd qv.lt (by rw [z]; exact Nat.lt_irrefl _)
   ·have z0:=Heap.lt_size (I3.pin p hp).1
    exact absurd z0 (by rw [z]; exact Nat.lt_irrefl _)
  ·refine thn (T.item Y rfl rfl rfl hc i [] s5 σ5 H5 Y.xe I5 (fpY fr5) st5 go) fun r s6 ⟨u,hr,h6⟩=>?_
   subst hr
   refine thn h6 fun _ s7 ⟨x,H7,I7,r7,y7,st7,fr7⟩=>?_
   have I7':=I7.pinned (fpY fr7) (T.obj _ _ st7)
   refine thn (hg _ _ _ _ _ _ _ _ s7 σ5 H7 x u _ I7' r7 (step x H7 y7)) fun _ s8 ⟨σ8,H8,I8,q8⟩=>?_
   refine thn (ht _ _ _ _ _ _ _ _ s8 σ8 H8 _ I8 q8) fun ok s9 ⟨H9,I9,q9⟩=>?_
   have again:∀ {sx:Shared} {Hx:Hp},Inv Y ([]++mF fp s7.heap) σ8 Hx sx→Nx σ8 Hx→∃ m,m < n∧∃ i σ' H',Inv Y [] σ' H' sx∧tn i sx.heap∧(∀ b∈fp,H' b=none)∧W i m σ' H':=fun {sx Hx} Ix nx=>by
    obtain ⟨m',hm,wx⟩:=hNx σ8 Hx nx
    refine ⟨m',hm,i+1,σ8,Hx,Ix.unpinned,T.keep _ _ _ st7 fun b hb o e=>(Ix.pin (b,o) (List.mem_append_right _ (List.mem_append_right _ (cW hb e)))).1,fun b hb=>?_,wx⟩
    obtain ⟨o,e,d⟩:=T.obj _ _ st7 b hb
    exact (Ix.pin (b,o) (List.mem_append_right _ (List.mem_append_right _ (cW hb e)))).2.1
   cases ok with
   | false =>
    rw [if_neg Bool.false_ne_true] at q9 ⊢
    exact again I9 q9
   | true =>
    rw [if_pos rfl] at q9 ⊢
    refine thn (he _ _ _ _ _ _ _ ps _ s9 σ8 H9 _ I9 q9) fun y s10 ⟨v10,H10,I10,r10,ys,hys,hz,q10⟩=>?_
    refine thn (cG (X:=Y) _ s10 σ8 H10 (.ref L) [v10] (.ref L) [y] (fun _ H'=>Nx σ8 H') I10 rfl (.cons r10 .nil) ⟨L,ys,v10,rfl,rfl,hys,hz,q10⟩) fun _ s11 ⟨_,H11,I11,_,q11⟩=>?_
    exact again I11 q11
 exact codeAny_compStart_list (loop _ rfl) (T.self X.A 0 _ _ _ stY (loop _ rfl))
end L2
namespace L2
open PySem PySem.Spec PyProof.Rows
def del (H:Hp) (c:Addr):Hp:=fun b=>if b=c then none else H b
section
variable {P:Program} {w:World} {H H':Hp} {h h':Heap} {c:Addr} {o:Obj} {fs:List Addr}
variable {outer:List Env} {s s':Shared} {Q:VK} {u:Value} {E:XK} {e:Value}
end
section
variable {P:Program} {w:World} {K:PySem.W.Frag} {mg:Str→Option Value} {base:Heap} {N:List Str} {qual:Str} {scope:Scope} {f:Addr} {cd:Value} {cl:List (Str × Addr)} {A:Around} {outer:List Env} {s0:Shared} {H0:Hp} {E:XK}
end
structure Ng (mg:Str→Option Value) (base:Heap) (c P:Addr):Prop where
 hd:PySem.W.CodeHd base c P
 gP:mainGlobals≠P
 blt:base.BuiltinsAt mg P
end L2
namespace L2
open PySem PySem.Spec PyProof.Rows
theorem rA {y:V}:∀ {xs:List V} {us:List Value},Vals xs us→xs.all jr=true→us.countP (eqU y)=xs.countP fun z=>eqV z y
 | _,_,.nil,_=>rfl
 | x :: xs,u :: us,.cons r t,f=>by
  rw [List.all_cons,Bool.and_eq_true] at f
  rw [List.countP_cons,List.countP_cons,vo r f.1,rA t f.2]
theorem Bb {X:Cx}:MtR X "list.count" (fun x xs H Q=>∃ (l:Addr) (ys:List V) (y:V),x=.ref l∧xs=[y]∧H l=some (.lst ys)∧jr y=true∧ys.all jr=true∧Q (.int (ys.countP (fun z=>eqV z y):Nat)) H):=by
 intro pins s σ H x xs v us Q I rx rv h
 obtain ⟨l,ys,y,rfl,rfl,hH,fy,fs,q⟩:=h
 cases rx
 obtain ⟨u,rfl,ru⟩:=rv.one
 obtain ⟨z,its,n,r,hl,e⟩:=I.lstM hH
 refine call_meets F.slot_list_count ⟨_,e,rfl⟩ F.entry_list_count (F.args_list_count_2 _ _) (SeqAt.list_countAt l its.toArray n none #[] u (eqU y)) ⟨e,fun w hw=>gA ru fy r fs w (by simpa using hw),?_⟩
 rw [show its.toArray.toList=its from rfl,rA r fs]
 exact ⟨.int _,H,I.tok _,⟨_,rfl⟩,q⟩
theorem rB {X:Cx}:MtR X "list.index" (fun x xs H Q=>∃ (l:Addr) (ys:List V) (y w:V) (j:Nat),x=.ref l∧xs=[y]∧H l=some (.lst ys)∧jr y=true∧ys.all jr=true∧ys[j]?=some w∧eqV w y=true∧(∀ i z,i < j→ys[i]?=some z→eqV z y=false)∧Q (.int (j:Nat)) H):=by
 intro pins s σ H x xs v us Q I rx rv h
 obtain ⟨l,ys,y,w,j,rfl,rfl,hH,fy,fs,hj,hw,hno,q⟩:=h
 cases rx
 obtain ⟨u,rfl,ru⟩:=rv.one
 obtain ⟨z,its,n,r,hl,e⟩:=I.lstM hH
 have hjl:j < ys.length:=(List.getElem?_eq_some_iff.mp hj).1
 have at_:∀ (i:Nat) (hi:i < its.length) (z:V),ys[i]?=some z→eqU y its[i]=eqV z y:=fun i hi z hz=>by
  obtain ⟨u',h1,h2⟩:=r.get hz
  rw [List.getElem?_eq_getElem hi] at h1
  cases h1
  exact vo h2 (List.all_eq_true.mp fs z (List.mem_of_getElem? hz))
 have hz:=oR
 refine call_meets F.slot_list_index ⟨_,e,rfl⟩ F.entry_list_index (F.args_list_index_2 _ _) (SeqAt.list_indexAt l its.toArray n none #[] u (eqU y) j (by rw [List.size_toArray]; omega) (by omega) ?_ ?_) ⟨e,fun w hw=>gA ru fy r fs w (by simpa using hw),?_⟩
 ·show eqU y its[j]=true
  rw [at_ j (by omega) w hj]; exact hw
 ·intro m hm hlt
  show eqU y its[m]=false
  have hm':m < its.length:=by simpa using hm
  have hm2:m < ys.length:=by omega
  rw [at_ m hm' ys[m] (List.getElem?_eq_getElem hm2)]
  exact hno m _ hlt (List.getElem?_eq_getElem hm2)
 ·exact ⟨.int _,H,I.tok _,⟨_,rfl⟩,q⟩
structure HY (k:Nat) (A:Around):Prop where
 dp:A.depth+3 * k+5 < recursionLimit
 un:A.units+16 * k+200 < cLine
theorem jw.q {k:Nat} {A:Around} (r:jw k A) (e:Option Value):HY k (A.mark e):=⟨r.dp,r.un⟩
structure Oj (P:Program) (w:World) (K:PySem.W.Frag) (mg:Str→Option Value) (base:Heap) (x:Str) (k:Nat) (ps:List Str) (sp:Sp):Prop where
 ex:∃ (f:Addr) (fd:FuncData),((∀ vs H Q E,sp vs H Q E→vs.length=ps.length)∧∀ (A:Around) (outer:List Env) (s:Shared) (H:Hp) (args:Args) (us:List Value) (vs:List V) (Q:VK),HY k A→Je P w K mg base A outer s H→BindsTo s fd args (ps.zip us)→Vals vs us→sp vs H Q E0 →
  codeAny (model P w) A (.call (.ref f) args) (CR CX0 outer P w H s Q E0) s)∧Binds K fd ps []∧PySem.W.keepIn K (.ref f)=true∧mg x=some (.ref f)
end L2
namespace L2
open PySem PySem.Spec PyProof.Rows
open AutoSeq1 (wpAny_loadPart')
section
variable {prog:Program} {w:World} {A:Around} {E:Value→Shared→Prop} {s:Shared}
end
section
variable {prog:Program} {w:World} {A:Around} {E:Value→Shared→Prop} {s:Shared}
end
section
variable {X:Cx}
end
def Kc:R2:=fun x y H Q=>∃ (ds es:List D) (n:Nat),Den H x (.tup ds)∧Den H y (.tup es)∧fH (n+1) (.tup ds)∧fH (n+1) (.tup es)∧n≤50∧qK ds es∧Q (.bl (!eqD (.tup ds) (.tup es))) H
theorem Fj {X:Cx} (hu:X.A.units+64 < cLine):OpR X (compareOp .NotEq) Kc:=by
 intro pins s σ H x y v u Q I rx ry h
 obtain ⟨ds,es,n,hx,hy,hs1,hs2,hn,hm,q⟩:=h
 have ih:=Km I (s':=s) (fun b o z=>z) n
 obtain ⟨a,vs,rfl,ha,hda⟩:=aQ hx
 obtain ⟨b,us,rfl,hb,hdb⟩:=aQ hy
 cases rx
 cases ry
 obtain ⟨its,r1,p1,_⟩:=I.tuple (SqT.of (K:=X.K) ha)
 obtain ⟨its2,r2,p2,_⟩:=I.tuple (SqT.of (K:=X.K) hb)
 have l1:=hda.len
 have l2:=hdb.len
 have m1:=r1.length
 have m2:=r2.length
 have e0:=allR_eq ds es
 rw [show ds.length=its.toArray.size by simp; omega,show es.length=its2.toArray.size by simp; omega] at e0
 have key:=SeqAt.RcNeAt.tuples (A:=X.A) (s:=s) (e:=fun j=>eqD (ds.getD j .non) (es.getD j .non)) p1 p2 (by omega) fun j h1 h2=>?_
 ·rw [e0] at key
  exact key X.prog X.w _ _ ⟨.bl _,H,I,rfl,q⟩
 ·have hj1:j < vs.length:=by simpa [m1] using h1
  have hj2:j < us.length:=by simpa [m2] using h2
  obtain ⟨d1,g1,b1⟩:=hda.at_ (List.getElem?_eq_getElem hj1)
  obtain ⟨d2,g2,b2⟩:=hdb.at_ (List.getElem?_eq_getElem hj2)
  obtain ⟨w1,hw1,rw1⟩:=r1.get (List.getElem?_eq_getElem hj1)
  obtain ⟨w2,hw2,rw2⟩:=r2.get (List.getElem?_eq_getElem hj2)
  have q1:its.toArray[j]=w1:=by
   have:=(List.getElem?_eq_some_iff.mp hw1).2
   simpa using this
  have q2:its2.toArray[j]=w2:=by
   have:=(List.getElem?_eq_some_iff.mp hw2).2
   simpa using this
  rw [q1,q2]
  rw [List.getD_eq_getElem?_getD,List.getD_eq_getElem?_getD,g1,g2]
  have s1:=(hs1.2 ds rfl).2 d1 (List.mem_of_getElem? g1)
  have s2:=(hs2.2 es rfl).2 d2 (List.mem_of_getElem? g2)
  exact (ih d1 d2 X.A.in1 _ _ _ _ s1 s2 (hm.at_ g1 g2) b1 b2 rw1 rw2 (by first | (simp only [Around.in1]; omega) | omega)).1
end L2
namespace ZTL
open PySem
open ZT (Apart Bm Hy)
open Sem (wp)
section
variable {prog:Program} {w:World} {A:Around} {E:Value→Shared→Prop} {s:Shared}
end
end ZTL
namespace L2
open PySem PySem.Spec PyProof.Rows
end L2
namespace L2
open PySem PySem.Spec PyProof.Rows
end L2
namespace SA
open PySem PySem.Spec PyProof.Rows
section
variable {prog:Program} {w:World} {K:Type} [DecidableEq K] {knd:KeyKind prog w K} {A:Around} {E:Value→Shared→Prop} {s:Shared}
end
end SA
namespace L2
open PySem PySem.Spec PyProof.Rows
end L2
namespace L2
open PySem PySem.Spec PyProof.Rows
theorem any_range (bs:List Bool):(List.range bs.length).any (fun i=>bs.getD i true)=bs.any id:=by
 rw [Bool.eq_iff_iff,List.any_eq_true,List.any_eq_true]
 constructor
 ·rintro ⟨i,hi,h⟩
  have hi':=List.mem_range.mp hi
  rw [List.getD_eq_getElem?_getD,List.getElem?_eq_getElem hi'] at h
  exact ⟨_,List.getElem_mem hi',h⟩
 ·rintro ⟨b,hb,h⟩
  obtain ⟨i,hi,e⟩:=List.getElem_of_mem hb
  refine ⟨i,List.mem_range.mpr hi,?_⟩
  rw [List.getD_eq_getElem?_getD,List.getElem?_eq_getElem hi,e]
  exact h
theorem xQ {X:Cx} (hc:X.calm=true):jt X (.builtin "any") (fun xs H Q=>∃ (l:Addr) (bs:List Bool),xs=[.ref l]∧SqL X.K H l (bs.map V.bl)∧Q (.bl (bs.any id)) H):=by
 intro pins s σ H xs us Q I r h
 obtain ⟨l,bs,rfl,hq,q⟩:=h
 obtain ⟨u,rfl,ru⟩:=vals1 r
 cases ru
 obtain ⟨its,rv,p,hz⟩:=I.list hq
 have hd:X.A.in1.handled=none:=I.ok.hd hc
 have hl:=rv.length
 refine call_any_walk (wpAny_pyIter_list p.isList ?_)
 obtain ⟨o,n,eo,_⟩:=id p
 have hne:l≠s.heap.objs.size:=Nat.ne_of_lt (Heap.lt_size eo)
 refine ⟨s.heap.objs.size,_,_,_,_,_,fun i=>bs.getD i true,rfl,Walks.list hd s.heap.objs.size l hne its.toArray,⟨⟨_,Heap.get?_push_size _ rfl,rfl,rfl⟩,p.isList.push _⟩,fun i v s' Q' E' hv hQ'=>?_,fun h' tk hk=>?_⟩
 ·rw [Es rv hv]
  exact wpAny_truthy_bool hQ'
 ·have e:its.toArray.size=bs.length:=by rw [List.size_toArray,← hl,List.length_map]
  rw [e,any_range]
  have I1:Inv X pins σ H { s with heap:=s.heap.push { cls:=.type "list_iterator",data:=.fields #[.ref l,.int 0 0] } }:=I.kept (t':=s.toks) fun b o q=>Heap.get?_push_of_some _ q
  obtain ⟨f0,f1,f2,f3,f4,f5⟩:=I.fpOk (b:=s.heap.objs.size) (Nat.le_refl _) I.fresh
  exact ⟨.bl _,H,I1.turned (it:=s.heap.objs.size) (fun b o hb e=>hk b o (by simpa using hb) e) f0 f1 f3 f4 f5,rfl,q⟩
end L2
namespace L2
open PySem PySem.Spec PyProof.Rows
section
variable {X:Cx}
end
end L2
namespace L2
open PySem PySem.Spec PyProof.Rows
def Ks:V→V→V→Hp→(Hp→Prop)→Prop:=fun o i v H Q=>∃ (a:Addr) (H':Hp),o=.ref a∧uJ H a i v H'∧Q H'
theorem set_dict {X:Cx} (hu:X.A.units+1 < cLine):Mu X Ks:=by
 intro pins s σ H o i v ov iv u Q I ro ri rv h
 obtain ⟨a,H',rfl,g,q⟩:=h
 cases ro
 exact qY hu I g ri rv fun s' I'=>⟨H',I',q⟩
end L2
namespace L2
open PySem PySem.Spec PyProof.Rows
def KH:R2:=fun x y H Q=>∃ (l b:Addr) (xs zs:List V),x=.ref l∧y=.ref b∧H l=some (.lst xs)∧H b=some (.lst zs)∧xs.length+zs.length≤sizeLine∧Q (.ref l) (upd H l (.lst (xs++zs)))
theorem sZ:fillsInplaceSlot (.type "list") "add" (Operator.Add == .Add)=pure false:=by
 unfold fillsInplaceSlot
 show (typeLookup (.type "list") (dunderI "add") >>= fun fi=>pure (fi.isSome && !isSeqSlot fi))=pure false
 rw [F.slot_list_iadd.lookup]
 show (pure _:Sem Bool)=pure false
 congr 1
theorem zG:seqSlot? (.type "list") (dunderI "add")=pure (some (.builtin "list.__iadd__")):=by
 unfold seqSlot?
 rw [F.slot_list_iadd.lookup]
 rfl
theorem cI {X:Cx}:OpR X (inplaceOp .Add) KH:=by
 intro pins s σ H x y v u Q I rx ry h
 obtain ⟨l,b,xs,zs,rfl,rfl,hH,hB,hz,q⟩:=h
 cases rx
 cases ry
 obtain ⟨z,its,n,r,hl,e⟩:=I.lstM hH
 obtain ⟨z2,its2,n2,r2,hl2,e2⟩:=I.lstM hB
 have hsz:its.toArray.size+its2.toArray.size≤sizeLine:=by rw [List.size_toArray,List.size_toArray]; omega
 have hlong:¬ (!its.toArray.isEmpty && Builtin.List.listTooLong (its.toArray.size+its2.toArray.size))=true:=by
  rw [qJ hsz,Bool.and_false]
  exact Bool.false_ne_true
 unfold inplaceOp
 refine wpAny_holding ?_
 refine wpAny_bind (wpAny_typeOf ⟨_,e,rfl⟩ (wpAny_bind (wpAny_of_eq sZ ?_)))
 show wpAny _ _ (if false=true then _ else _) _ _ _
 rw [if_neg Bool.false_ne_true]
 refine wpAny_bind (wpAny_binaryOp1_none (nm:="add") ⟨_,e,rfl⟩ ⟨_,e2,rfl⟩ noFill_list_add ?_)
 refine wpAny_bind (wpAny_of_eq zG ?_)
 refine wpAny_bind (wpAny_rule ?_)
 refine call_meets F.slot_list_iadd ⟨_,e,rfl⟩ F.entry_list_iadd (F.args_list_iadd_2 _ _)
  (AutoSeq1.list___iadd___list_list_0 l its.toArray n b its2.toArray n2 hlong (by rw [List.size_toArray]; omega) (by omega)) ⟨e,e2,?_⟩
 refine ⟨.ref l,_,I.lset (its':=its++its2) hH e (by simp) (r.append r2) ?_,rfl,q⟩
 rw [List.length_append]
 omega
theorem lZ {X:Cx}:MtR X "str.split" (fun x xs H Q=>∃ y z:Str,x=.str y∧xs=[.str z]∧y.length≤100000∧(z.length == 0)=false∧(Builtin.Str.partsBetween y (Builtin.Str.occurrences y z 0 y.length (y.length+1)) z.length).length≤100000∧∀ l,H l=none→Q (.ref l) (upd H l (.lst ((Txt.split y z).map V.str)))):=by
 intro pins s σ H x xs v us Q I rx r h
 obtain ⟨y,z,rfl,rfl,hz,hy0,hn,q⟩:=h
 obtain ⟨t,rfl⟩:=rx
 obtain ⟨u,rfl,⟨t1,rfl⟩⟩:=vals1 r
 have hb:=bR
 have fin:∀ (l:List (Str × Tok)) (tk:Nat),l.map (·.1)=Txt.split y z→l.length≤sizeLine→EP X pins σ Q (.ref s.heap.objs.size) { s with heap:=s.heap.push { cls:=.type "list",data:=.seq (strValues l).toArray },toks:=tk }:=fun l tk e hl=>by
  refine ⟨.ref s.heap.objs.size,_,I.lnew (its:=strValues l) (ys:=(l.map (·.1)).map V.str) (oU l) (by rw [List.length_map,List.length_map]; exact hl),rfl,?_⟩
  rw [e]
  exact q _ I.fresh
 cases h1:(decide (y.length < z.length) || decide (Builtin.Str.strKind y < Builtin.Str.strKind z))
 ·cases hf:(Builtin.Str.occurrences y z 0 y.length (y.length+1)).isEmpty
  ·refine call_meets F.slot_str_split (typeIs_str _ _ _) F.entry_str_split (F.args_str_split_2 _ _) (meets_str_split_sep y z t t1 h1 hy0 hf (by omega) (by omega)) ?_
   show wants _ _ _ { s with toks:=_,heap:=s.heap.push { cls:=.type "list",data:=.seq (strsFrom s.toks (Builtin.Str.partsBetween y (Builtin.Str.occurrences y z 0 y.length (y.length+1)) z.length)).toArray } }
   rw [strsFrom_eq]
   have et:=numbered_texts s.toks (Builtin.Str.partsBetween y (Builtin.Str.occurrences y z 0 y.length (y.length+1)) z.length)
   refine fin (numbered s.toks _) _ (et.trans ((if_neg (ne_true_of_eq_false h1)).trans (if_neg (ne_true_of_eq_false hf))).symm) ?_
   have el:=congrArg List.length et
   rw [List.length_map] at el
   omega
  ·exact call_meets F.slot_str_split (typeIs_str _ _ _) F.entry_str_split (F.args_str_split_2 _ _) (meets_str_split_not_found y z t t1 h1 hy0 hf)
    (fin [(y,t)] _ ((if_neg (ne_true_of_eq_false h1)).trans (if_pos hf)).symm (by show 1≤_; omega))
 ·exact call_meets F.slot_str_split (typeIs_str _ _ _) F.entry_str_split (F.args_str_split_2 _ _) (meets_str_split_cannot_occur y z t t1 h1)
   (fin [(y,t)] _ (if_pos h1).symm (by show 1≤_; omega))
def Lx:R2:=fun x y H Q=>(x=.non∧y=.non∧Q (.bl false) H)∨(x=.non∧(∃ es,Den H y (.tup es))∧Q (.bl true) H)∨(y=.non∧(∃ es,Den H x (.tup es))∧Q (.bl true) H)∨Kc x y H Q
theorem Ij {X:Cx} (hu:X.A.units+64 < cLine):OpR X (compareOp .NotEq) Lx:=by
 intro pins s σ H x y v u Q I rx ry h
 rcases h with ⟨rfl,rfl,q⟩ | ⟨rfl,⟨es,hy⟩,q⟩ | ⟨rfl,⟨es,hy⟩,q⟩ | h
 ·exact oY pins s σ H _ _ v u Q I rx ry ⟨rfl,q⟩
 ·obtain ⟨a,vs,rfl,ha,hda⟩:=aQ hy
  cases rx
  cases ry
  obtain ⟨its,r1,p1,_⟩:=I.tuple (SqT.of (K:=X.K) ha)
  exact SeqAt.RcNeAt.none_tuple p1 (by omega) X.prog X.w _ _ ⟨.bl true,H,I,rfl,q⟩
 ·obtain ⟨a,vs,rfl,ha,hda⟩:=aQ hy
  cases rx
  cases ry
  obtain ⟨its,r1,p1,_⟩:=I.tuple (SqT.of (K:=X.K) ha)
  exact SeqAt.RcNeAt.tuple_none p1 (by omega) X.prog X.w _ _ ⟨.bl true,H,I,rfl,q⟩
 ·exact Fj hu pins s σ H x y v u Q I rx ry h
theorem dB {X:Cx} {ss:List Stmt}:PSs X ss (fun _ _ _=>False):=fun _ _ _ _ _ _ h=>h.elim
theorem rY {X:Cx} {elt tg iter:Expr} {ifs:List Expr} {scope:Scope} {pos:Pos} {wi:TI} {g:TG} {tc:TT} {te:TE} {E0:XK} (hF:Hv X E0) (hst:X.stack=X.env :: X.outer) (hfl:X.env.frame=some X.env.locals) (XN:List Str) (sc:Scope) (N:List Str) (js:List (Option Nat)) (hXN:X.N=XN) (hsc:X.env.scope=sc) (hc:X.calm=true) (hi:PI X tg iter wi)
  (hkind:scope.kind=.function) (hchk:jo N js XN scope.names=true) (hcell:∀ y∈scope.names,y.2≠.cell) (hfree:∀ y∈scope.names,y.2=.free→sc.names.lookup y.1=some .cell∨sc.names.lookup y.1=some .free)
  (hnames:∀ y∈scope.names,y.2=.local→scope.names.lookup y.1=some .local)
  (hg:∀ cl C s H ex pn E,PG (bJ X scope N cl C s H ex pn E) tg g) (ht:∀ cl C s H ex pn E,Ei (bJ X scope N cl C s H ex pn E) ifs tc) (he:∀ cl C s H ex pn E,gB (CX1 X.prog X.w) (bJ X scope N cl C s H ex pn E) (fun _=>outV E0)→PE (bJ X scope N cl C s H ex pn E) elt te)
  (hs:∀ x,foldedSetIterable iter X.env x=pure x:=by intro _; rfl) :
  PE X (.ListComp elt [⟨tg,iter,ifs,0⟩] scope pos) (wg wi g tc te (ji js)):=by
 subst hXN
 subst hsc
 exact Dj hF hst hfl N (ji js) hc hi hkind hcell hfree hnames (fun σ _=>uw hchk σ) (fun σ i x v _ h1 h2=>Ar hchk σ i x v h1 h2) hg ht he hs
end L2
namespace L2
open PySem PySem.Spec PyProof.Rows
theorem yI {X:Cx} {x:Str} {k n:Nat} {sp:Sp} {p pos:Pos} (C:Cal X.prog X.w X.K X.mg X.base x k [] sp) (hr:jw n X.A) (hk:k≤n) (hg:Gl X x)
  (hdb:(x == ("__debug__" : Str))=false:=by decide):PE X (.Call (.Name x p) [] [] pos) (xJ sp [] E0 GP):=by
 obtain ⟨f,fd,F,b,kp,m⟩:=C.ex
 exact Dc F (hr.mono hk) hg m kp b .nil Hu hdb
def N5:R2:=fun x y H Q=>∃ (a b:Addr) (z:Str),x=.ref a∧y=.ref b∧H a=some (.tup [.non,.str z])∧H b=some (.tup [.non,.str z])∧Q (.bl false) H
theorem Ir {X:Cx} (hu:X.A.units+64 < cLine):OpR X (compareOp .NotEq) N5:=by
 intro pins s σ H x y v u Q I rx ry h
 obtain ⟨a,b,z,rfl,rfl,ha,hb,q⟩:=h
 cases rx
 cases ry
 obtain ⟨its,r1,p1,_⟩:=I.tuple (SqT.of (K:=X.K) ha)
 obtain ⟨its2,r2,p2,_⟩:=I.tuple (SqT.of (K:=X.K) hb)
 have m1:=r1.length
 have m2:=r2.length
 have key:=SeqAt.RcNeAt.tuples (A:=X.A) (s:=s) (e:=fun _=>true) p1 p2 (by omega) fun j h1 h2=>?_
 ·have e:(!((List.range (min its.toArray.size its2.toArray.size)).all (fun _=>true) && its.toArray.size == its2.toArray.size))=false:=by
   simp
   omega
  rw [e] at key
  exact key X.prog X.w _ _ ⟨.bl false,H,I,rfl,q⟩
 ·have hj1:j < [V.non,V.str z].length:=by simpa [m1] using h1
  have hj2:j < [V.non,V.str z].length:=hj1
  obtain ⟨w1,hw1,rw1⟩:=r1.get (List.getElem?_eq_getElem hj1)
  obtain ⟨w2,hw2,rw2⟩:=r2.get (List.getElem?_eq_getElem hj2)
  have q1:its.toArray[j]=w1:=by
   have:=(List.getElem?_eq_some_iff.mp hw1).2
   simpa using this
  have q2:its2.toArray[j]=w2:=by
   have:=(List.getElem?_eq_some_iff.mp hw2).2
   simpa using this
  rw [q1,q2]
  match j,hj1 with
  | 0,_ =>
   cases rw1
   cases rw2
   exact SeqAt.EqAt.same _
  | 1,_=>exact yJ I 0 (.str z) X.A.in1 (.str z) (.str z) _ _ (jA _) rfl rfl rw1 rw2 (by first | (simp only [Around.in1]; omega) | omega)
end L2
set_option maxHeartbeats 1000000
namespace SO
open PySem PySem.W PyProof.Rows
section
variable {O:KeyOrd} {key:Nat→O.α} {N:Nat} {prog:Program} {w:World} {A:Around} {E:Value→Shared→Prop} {s:Shared} {κ:SortKind} {it:Array Keyed} {st:SortSt}
end
end SO
namespace SO
open PySem PySem.W PyProof.Rows
abbrev arr (it:Array Keyed) (l:List Nat):Array Keyed:=l.toArray.map (kas_item it)
section
variable {it:Array Keyed}
end
section
variable {O:KeyOrd} {key:Nat→O.α} {N:Nat} {prog:Program} {w:World} {A:Around} {E:Value→Shared→Prop} {s:Shared} {κ:SortKind} {it:Array Keyed} {st:SortSt}
abbrev Up (key:Nat→O.α) (l:List Nat):Prop:=l.Pairwise fun x y=>O.kle (key x) (key y)
structure Mg (key:Nat→O.α) (As Bs o ra rb:List Nat):Prop where
 perm:(o++(ra++rb)).Perm (As++Bs)
 so:Up key o
 le:∀ x∈o,∀ y∈ra++rb,O.kle (key x) (key y)
 sa:Up key ra
 sb:Up key rb
variable {As Bs o ra rb xs ra' rb':List Nat}
end
end SO
set_option maxHeartbeats 2000000
namespace SO
open PySem PySem.W PyProof.Rows
section
variable {O:KeyOrd} {key:Nat→O.α} {N:Nat} {prog:Program} {w:World} {A:Around} {E:Value→Shared→Prop} {s:Shared} {κ:SortKind} {it:Array Keyed} {st:SortSt} {As Bs o:List Nat} {ia ib:Nat}
end
end SO
namespace SO
open PySem PySem.W PyProof.Rows
section
variable {O:KeyOrd} {key:Nat→O.α} {N:Nat} {prog:Program} {w:World} {A:Around} {E:Value→Shared→Prop} {s:Shared} {κ:SortKind} {it:Array Keyed} {st:SortSt} {As Bs o ra rb xs ra' rb':List Nat} {na nb:Nat}
structure Mh (key:Nat→O.α) (As Bs o ra rb:List Nat):Prop where
 perm:(ra++rb++o).Perm (As++Bs)
 so:Up key o
 le:∀ x∈ra++rb,∀ y∈o,O.kle (key x) (key y)
 sa:Up key ra
 sb:Up key rb
end
end SO
namespace SO
open PySem PySem.W PyProof.Rows
section
variable {O:KeyOrd} {key:Nat→O.α} {N:Nat} {prog:Program} {w:World} {A:Around} {E:Value→Shared→Prop} {s:Shared} {κ:SortKind} {it:Array Keyed} {pend:Array (Nat × Nat × Nat)} {st:SortSt} {q:Array Nat}
structure Ss (κ:SortKind) (it:Array Keyed) (pend:Array (Nat × Nat × Nat)) (q:Array Nat) (st:SortSt):Prop where
 kind:kindOf st=κ
 arr:arrOf st=q.map (kas_item it)
 pend:pendingOf st=pend
 failed:failedOf st=none
def Fq (key:Nat→O.α) (q:Array Nat) (lo n:Nat):Prop:=∀ i j,i≤j→j < n→O.kle (KN key q (lo+i)) (KN key q (lo+j))
end
end SO
namespace SO
open PySem PySem.W PyProof.Rows
section
variable {O:KeyOrd} {key:Nat→O.α} {N:Nat} {prog:Program} {w:World} {A:Around} {E:Value→Shared→Prop} {s:Shared} {κ:SortKind} {it:Array Keyed} {pend:Array (Nat × Nat × Nat)} {st:SortSt} {q:Array Nat}
end
section
variable {O:KeyOrd} {key:Nat→O.α} {N:Nat} {q:Array Nat}
end
end SO
namespace SO
open PySem PySem.W PyProof.Rows
section
variable {O:KeyOrd} {key:Nat→O.α} {N:Nat} {prog:Program} {w:World} {A:Around} {E:Value→Shared→Prop} {s:Shared} {κ:SortKind} {it:Array Keyed} {pend:Array (Nat × Nat × Nat)} {st:SortSt} {q:Array Nat}
end
end SO
namespace SO
open PySem PySem.W PyProof.Rows
abbrev pr (t:Nat × Nat × Nat):Nat × Nat:=(t.1,t.2.1)
def Chain:Nat→List (Nat × Nat)→Nat→Prop
 | a,[],b=>a=b
 | a,t :: r,b=>t.1=a∧1≤t.2∧Chain (a+t.2) r b
theorem Chain.le:∀ {a b:Nat} {P:List (Nat × Nat)},Chain a P b→a+P.length≤b∧∀ t∈P,a≤t.1∧t.1+t.2≤b
 | a,b,[],h=>by have h:a=b:=h; subst h; exact ⟨Nat.le_refl _,fun t ht=>by cases ht⟩
 | a,b,t :: P,⟨h1,h2,h3⟩=>by
  obtain ⟨g1,g2⟩:=Chain.le h3
  refine ⟨by rw [List.length_cons]; omega,fun u hu=>?_⟩
  rcases List.mem_cons.mp hu with rfl | hu
  ·omega
  ·have:=g2 u hu
   omega
section
variable {O:KeyOrd} {key:Nat→O.α} {N:Nat} {prog:Program} {w:World} {A:Around} {E:Value→Shared→Prop} {s:Shared} {κ:SortKind} {it:Array Keyed} {pend:Array (Nat × Nat × Nat)} {st:SortSt} {q:Array Nat}
structure Rn (key:Nat→O.α) (N:Nat) (κ:SortKind) (it:Array Keyed) (pend:Array (Nat × Nat × Nat)) (q:Array Nat) (st:SortSt) (lo:Nat):Prop where
 S:Ss κ it pend q st
 hq:InN N q
 ch:Chain 0 (pend.toList.map pr) lo
 up:∀ t∈pend.toList.map pr,Fq key q t.1 t.2
end
end SO
set_option maxHeartbeats 1000000
namespace SO
open PySem PySem.W PyProof.Rows
variable {O:KeyOrd} {key:Nat→O.α} {N:Nat}
section
variable {prog:Program} {w:World} {A:Around} {E:Value→Shared→Prop} {s:Shared}
end
end SO
namespace L2
open PySem PySem.W PyProof.Rows
section
variable {prog:Program} {w:World} {A:Around} {E:Value→Shared→Prop} {s:Shared}
variable {X:Cx} {pins:List (Addr × Obj)} {σ:St} {H:Hp} {s:Shared}
end
end L2
namespace L2
open PySem PySem.W PyProof.Rows
section
variable {X:Cx} {pins:List (Addr × Obj)} {σ:St} {H:Hp} {s:Shared}
end
end L2
namespace SO
open PySem PySem.W PyProof.Rows
section
variable {O:KeyOrd} {prog:Program} {w:World} {A:Around} {E:Value→Shared→Prop} {s:Shared}
end
end SO
namespace L2
open PySem PySem.Spec PyProof.Rows
end L2
set_option maxHeartbeats 4000000
namespace DR
open PySem PySem.W
open Sem (wp)
section
variable {prog:Program} {w:World} {A:Around} {E:Value→Shared→Prop} {s:Shared} {it dd:Addr} {es:Array DictEntry} {i ep:Nat}
end
end DR
namespace L2
open PySem PySem.Spec PyProof.Rows
end L2
namespace L2
open PySem PySem.Spec PyProof.Rows
end L2
namespace L2
open PySem PySem.Spec PyProof.Rows
end L2
namespace L2
open PySem PySem.Spec PyProof.Rows
section
variable {X:Cx} {pins:List (Addr × Obj)} {σ:St} {H:Hp} {s:Shared}
end
end L2
namespace SO
open PySem PySem.W PyProof.Rows
section
variable {O:KeyOrd} {prog:Program} {w:World} {A:Around} {E:Value→Shared→Prop} {s:Shared}
end
end SO
namespace L2
open PySem PySem.Spec PyProof.Rows
end L2
namespace L2
open PySem PySem.Spec PyProof.Rows
def pZ (K:PySem.W.Frag) (nm:Str) (v:Value):Bool:=match PySem.W.nsIn K mainGlobals nm,v with
 | some (some (.ref a)),.ref b=>a == b
 | _,_=>false
def KFT (K:PySem.W.Frag) (t:Addr) (F:List (Str × Str)):Prop:=KTD.tabLook (pZ K) (fun b=>K.lookup b) t F=true
theorem JW {K:PySem.W.Frag} {nm:Str} {v:Value} (h:pZ K nm v=true):∃ f,v=.ref f∧PySem.W.nsIn K mainGlobals nm=some (some (.ref f)):=by
 unfold pZ at h
 split at h
 ·rename_i a b e
  exact ⟨b,rfl,by rw [e,eq_of_beq h]⟩
 ·cases h
theorem KFT.tab {K:PySem.W.Frag} {t:Addr} {F:List (Str × Str)} {h:Heap} (k:KFT K t F) (X:K.In h):KTD.TabOf (fun nm v=>pZ K nm v=true) h t F:=KTD.tab_of_look (fun _ _ x=>x) (fun b o q=>X b o q) k
section
variable {prog:Program} {w:World} {A:Around} {E:Value→Shared→Prop} {s:Shared}
theorem GF {δ:Type} {R:δ→Value→Prop} {a:Addr} {k:Str} {tk:Tok} {D:List (Str × δ)} {Q:Option Value→Shared→Prop} (T:KTD.TabOf R s.heap a D) {d:δ} (hd:KTD.datumAt k D=some d)
  (q:∀ v,R d v→Q (some v) { s with toks:=s.toks+1 }):wpAny (model prog w) A (dictGet a (.str k tk)) Q E s:=by
 obtain ⟨_,o,es,ep,ho,hc,he,hr⟩:=T
 unfold dictGet
 try with_reducible refine wpAny_holding ?_
 refine wpAny_bind (wpAny_pyHash_str (wpAny_bind (KTD.kt_dictFind_strs (s:={ s with toks:=s.toks+1 }) ho he (by obtain ⟨l⟩:=es; simpa using hr.exact) ?_)))
 obtain ⟨v,hv,rv⟩:=hr.find_some hd
 have z:findBy (fun k v=>v.isStr k) es k=some v:=by
  obtain ⟨l⟩:=es
  simpa [findBy] using hv
 rw [findBy_of_findIdx?] at z
 cases hi:es.findIdx? fun e=>e.key.isStr k with
 | none=>rw [hi] at z; cases z
 | some i =>
  rw [hi] at z
  refine wpAny_bind (wpAny_dictEntries (s:={ s with toks:=s.toks+1 }) ho he (wpAny_pure ?_))
  rw [show (es[i]?.map (·.val))=some v from z]
  exact q v rv
end
def Lk (K:PySem.W.Frag) (td ty:TE):TE:=fun σ H Q=>td σ H fun x H1=>ty σ H1 fun y H2=>∃ (t:Addr) (F:List (Str × Str)) (k nm:Str),x=.ref t∧y=.str k∧KFT K t F∧KTD.datumAt k F=some nm ∧
 ∀ f,PySem.W.nsIn K mainGlobals nm=some (some (.ref f))→Q (.ref f) H2
theorem Hw {X:Cx} {o i:Expr} {pos:Pos} {td ty:TE} (ho:PE X o td) (hi:PE X i ty) (hs:K9 i):PE X (.Subscript o i pos) (Lk X.K td ty):=by
 intro pins s σ H Q I h
 refine z9 PySem.F.slot_dict_getitem.lookup hs (thn (ho pins s σ H _ I h) fun u s1 ⟨x,H1,I1,rx,q1⟩=>thn (hi pins s1 σ H1 _ I1 q1) fun iv s2 ⟨y,H2,I2,ry,t,F,k,nm,ex,ey,kt,hk,q2⟩=>?_)
 subst ex ey
 cases rx
 obtain ⟨tk,rfl⟩:=ry
 have T:=kt.tab I2.kIn
 have hty:s2.TypeIs (.ref t) "dict":=by
  obtain ⟨_,o,es,ep,ho,hc,_⟩:=T
  exact ⟨o,ho,hc.1⟩
 refine ⟨hty,?_⟩
 unfold getItem
 try with_reducible refine wpAny_holding ?_
 refine wpAny_bind (wpAny_sequenceKey hty (by decide) (wpAny_bind (wpAny_callSpecial?_slot (name:=Str.ofString "__getitem__") hty slot_dict_getitem
  (wpAny_call_entry slot_dict_getitem hty entry_dict_getitem ?_ (args_dict_getitem _ _)))))
 show wpAny _ _ (dictGet t (.str k tk) >>= _) _ _ s2
 refine wpAny_bind (GF T hk fun v rv=>wpAny_pure ⟨v,rfl,wpAny_pure ?_⟩)
 obtain ⟨f,rfl,hf⟩:=JW rv
 exact ⟨.ref f,H2,I2.tok _,rfl,q2 f hf⟩
def MgK (K:PySem.W.Frag) (mg:Str→Option Value):Prop:=∀ (nm:Str) (v:Value),PySem.W.nsIn K mainGlobals nm=some (some v)→mg nm=some v
theorem mgk {K:PySem.W.Frag} {mg:Str→Option Value} {h:Heap} (X:K.In h) (G:h.Ns mainGlobals mg):MgK K mg:=fun _ _ e=>PySem.W.mg_of X G e
end L2
namespace L2
open PySem PySem.Spec PyProof.Rows
structure QI (X:Cx) (tg e:Expr) (t:TI):Prop where
 h:PI X tg e t
end L2
namespace M08
end M08
namespace L2
open M08
end L2
namespace Mine
open PySem L2 PyProof.Rows
def top (i:Nat):Stmt:=PySem.Challenge.pw_twainkeep_k24_first_refusal.main.body.getD i (.Pass ⟨0,0,0,0⟩)
abbrev jV:Stmt:=top 10
abbrev qp:Stmt:=top 11
abbrev lE:Stmt:=top 12
abbrev qg:Stmt:=top 13
abbrev pP:Stmt:=top 14
abbrev pO:Stmt:=top 16
abbrev iQ:Stmt:=top 17
abbrev Ib:Stmt:=top 19
abbrev nZ:Stmt:=top 20
abbrev jB:Stmt:=top 22
abbrev fY:Stmt:=top 26
abbrev jT:Stmt:=top 28
abbrev eV:Stmt:=top 29
abbrev jK:Stmt:=top 30
abbrev gw:Stmt:=top 31
abbrev lN:Stmt:=top 32
abbrev jF:Stmt:=top 34
abbrev jH:Stmt:=top 36
abbrev fB:Stmt:=top 37
abbrev jM:Stmt:=top 38
abbrev jy:Stmt:=top 39
abbrev lU:Stmt:=top 40
abbrev gj:Stmt:=top 41
abbrev jR:Stmt:=top 43
abbrev bU:Stmt:=top 44
abbrev jD:Stmt:=top 45
abbrev iU:Stmt:=top 46
abbrev jO:Stmt:=top 47
abbrev iZ:Stmt:=top 48
abbrev jU:Stmt:=top 49
abbrev BK:Stmt:=top 51
abbrev Kh:Stmt:=top 53
abbrev Cz:Stmt:=top 54
abbrev vL:Stmt:=top 55
abbrev mj:Stmt:=top 56
abbrev vA:Stmt:=top 57
abbrev CZ:Stmt:=top 58
abbrev lD:Stmt:=top 59
abbrev wD:Stmt:=top 60
abbrev vg:Stmt:=top 61
abbrev uU:Stmt:=top 62
abbrev pR:Stmt:=top 63
abbrev nj:Stmt:=top 64
abbrev Ci:Stmt:=top 65
abbrev jP:Stmt:=top 66
abbrev CW:Stmt:=top 67
theorem aL {H H':Hp} {l:Addr} {o:HO} (s:Same H H') (h:H l=none):Same H (upd H' l o):=fun c u z=>by
 rw [aG (aD z h)]
 exact s c u z
theorem bM {α:Type} {xs:List α} {i:Nat} (h:i < xs.length):xs[i]?=some xs[i]:=List.getElem?_eq_getElem h
theorem take_one {α:Type} {xs:List α} {i:Nat} {x:α} (h:xs[i]?=some x):xs.take (i+1)=xs.take i++[x]:=by rw [List.take_add_one,h]; rfl
theorem at_of {H:Hp} {vs:List V} {ds:List D} (d:cg H vs ds) {i:Nat} {v:V} (h:vs[i]?=some v) {e:D} (he:ds[i]?=some e):Den H v e:=by
 obtain ⟨f,hf,k⟩:=d.at_ h
 rw [hf] at he
 cases he
 exact k
theorem pA {H:Hp} {l:Addr} {us ws:List V} (e:H l=some (.lst us)):∀ (b:Addr) (vs:List V),H b=some (.tup vs)→(upd H l (.lst ws)) b=some (.tup vs):=fun b vs z=>by
 rw [aG]
 ·exact z
 ·intro q
  rw [q,e] at z
  cases z
theorem jf {t u:TS} {D:Ends} {σ:L2.St} {H:Hp} (P:L2.St→Hp→Prop) (h1:∀ N:L2.St→Hp→Prop,(∀ σ' H',P σ' H'→N σ' H')→t { D with nx:=N } σ H) (h2:∀ σ' H',P σ' H'→u D σ' H'):Ko t u D σ H:=h1 (u D) h2
theorem nxP {t u:TS} {D:Ends} {r:VK} {b c:L2.St→Hp→Prop} {σ:L2.St} {H:Hp} (P:L2.St→Hp→Prop) (h1:∀ N:L2.St→Hp→Prop,(∀ σ' H',P σ' H'→N σ' H')→t { D with nx:=N } σ H) (h2:∀ σ' H',P σ' H'→u D σ' H'):Ends.nx ⟨Ko t u D,r,b,c⟩ σ H:=h1 (u D) h2
def mR (c:Nat):Prop:=(32≤c∧c≤126)∨c=10
abbrev Nms:=List (List Nat)
abbrev Prt:=List Nat × List Nat × List Int
abbrev Lnk:=Nms × Nms × Int × List Int × List Int
def HD (ms:List Int):D:=.tup (ms.map D.int)
def eU (ns:Nms):D:=.tup (ns.map sD)
def bG (q:Prt):D:=.tup [sD q.1,sD q.2.1,HD q.2.2]
def bK (k:Lnk):D:=.tup [eU k.1,eU k.2.1,.int k.2.2.1,.tup [HD k.2.2.2.1,HD k.2.2.2.2]]
def Ce (ms:List Int):Prop:=(∀ n∈ms,0≤n∧n≤1000000000000)∧ms.Pairwise (· < ·)∧ms.length≤1000
def vY (ns:Nms):Prop:=(∀ x∈ns,isNm ⟨x.toArray⟩=true)∧ns.Pairwise (fun a b=>dlt (sD a) (sD b)=true)
def G9 (q:Prt):Prop:=isNm ⟨q.1.toArray⟩=true∧q.2.1.length≤400∧(∀ c∈q.2.1,mR c)∧Ce q.2.2∧q.2.2≠[]∧q.2.2.length≤13
theorem Kg {H:Hp}:∀ {cs:List Int} {vs:List V},cg H vs (cs.map D.int)→vs=cs.map V.int
 | [],[],_=>rfl
 | _ :: cs,v :: vs,h=>by
  have e:v=.int _:=h.1
  rw [e,Kg h.2]
  rfl
 | [],_ :: _,h=>h.elim
 | _ :: _,[],h=>h.elim
theorem qG (H:Hp):∀ cs:List Int,cg H (cs.map V.int) (cs.map D.int)
 | []=>trivial
 | _ :: cs=>⟨rfl,qG H cs⟩
theorem fD {H:Hp}:∀ {ds es:List D} {vs us:List V},cg H vs ds→cg H us es→cg H (vs++us) (ds++es)
 | [],_,[],_,_,h=>h
 | _ :: _,_,_ :: _,_,h,g=>⟨h.1,fD h.2 g⟩
 | [],_,_ :: _,_,h,_=>h.elim
 | _ :: _,_,[],_,h,_=>h.elim
theorem qb {n:Nat} {d:D} (h:fH n d):∀ k,fH (n+k) d
 | 0=>h
 | k+1=>(qb h k).up
theorem dX {n:Nat} {ds:List D} (hl:ds.length≤100000) (h:∀ d∈ds,fH n d):fH (n+1) (.tup ds) :=
 ⟨(fun z=>nomatch z),fun es e=>by injection e with e; subst e; exact ⟨hl,h⟩⟩
theorem qC {ms:List Int} (h:ms.length≤1000):fH 1 (HD ms):=dX (by rw [List.length_map]; omega) fun d hd=>by
 obtain ⟨i,_,rfl⟩:=List.mem_map.mp hd
 exact vq i
theorem j5 {ns:Nms} (h:ns.length≤1000):fH 1 (eU ns):=dX (by rw [List.length_map]; omega) fun d hd=>by
 obtain ⟨i,_,rfl⟩:=List.mem_map.mp hd
 exact jA _
theorem iW {α β:Type} {f:α→D} {g:β→D} (h:∀ a b,Sim (f a) (g b)):∀ (xs:List α) (ys:List β),qK (xs.map f) (ys.map g)
 | [],_=>rQ _
 | _ :: _,[]=>Jl _
 | x :: xs,y :: ys=>eX (h x y) (iW h xs ys)
theorem yC (a b:Int):Sim (.int a) (.int b):=trivial
theorem pY (a b:Str):Sim (.str a) (.str b):=trivial
theorem sY (a b:List Int):Sim (HD a) (HD b):=oX (iW (fun a b=>yC a b) a b)
theorem mJ (a b:Nms):Sim (eU a) (eU b):=oX (iW (fun a b=>pY _ _) a b)
theorem qd (a b:Lnk):Sim (bK a) (bK b):=by
 unfold bK
 exact oX (eX (mJ _ _) (eX (mJ _ _) (eX (yC _ _) (eX (oX (eX (sY _ _) (eX (sY _ _) (rQ _)))) (rQ _)))))
theorem lM {H:Hp} {v:V} {q:Lnk} (h:Den H v (bK q)):∃ (p p0 p1 p3 p4 p5:Addr) (us0 us1:List V),v=.ref p∧H p=some (.tup [.ref p0,.ref p1,.int q.2.2.1,.ref p3])∧H p0=some (.tup us0)∧cg H us0 (q.1.map sD)∧H p1=some (.tup us1)∧cg H us1 (q.2.1.map sD) ∧
  H p3=some (.tup [.ref p4,.ref p5])∧H p4=some (.tup (q.2.2.2.1.map V.int))∧H p5=some (.tup (q.2.2.2.2.map V.int)):=by
 obtain ⟨p,us,rfl,hp,hd⟩:=aQ h
 obtain ⟨b0,b1,b2,b3,rfl⟩:∃ b0 b1 b2 b3,us=[b0,b1,b2,b3]:=by
  match us,hd with
  | [b0,b1,b2,b3],_=>exact ⟨b0,b1,b2,b3,rfl⟩
  | [],h=>exact h.elim
  | [_],h=>exact h.2.elim
  | [_,_],h=>exact h.2.2.elim
  | [_,_,_],h=>exact h.2.2.2.elim
  | _ :: _ :: _ :: _ :: _ :: _,h=>exact h.2.2.2.2.elim
 obtain ⟨p0,us0,rfl,h0,hd0⟩:=aQ hd.1
 obtain ⟨p1,us1,rfl,h1,hd1⟩:=aQ hd.2.1
 have e2:b2=.int q.2.2.1:=hd.2.2.1
 subst e2
 obtain ⟨p3,us3,rfl,h3,hd3⟩:=aQ hd.2.2.2.1
 obtain ⟨c0,c1,rfl⟩:∃ c0 c1,us3=[c0,c1]:=by
  match us3,hd3 with
  | [c0,c1],_=>exact ⟨c0,c1,rfl⟩
  | [],h=>exact h.elim
  | [_],h=>exact h.2.elim
  | _ :: _ :: _ :: _,h=>exact h.2.2.elim
 obtain ⟨p4,us4,rfl,h4,hd4⟩:=aQ hd3.1
 obtain ⟨p5,us5,rfl,h5,hd5⟩:=aQ hd3.2.1
 rw [Kg hd4] at h4
 rw [Kg hd5] at h5
 exact ⟨p,p0,p1,p3,p4,p5,us0,us1,rfl,hp,h0,hd0,h1,hd1,h3,h4,h5⟩
def dH (L R:List Prt) (ks:List Lnk) (al:Nms):D:=.tup [.tup (L.map bG),.tup (R.map bG),.tup (ks.map bK),eU al]
def jd (L:List Prt):List V:=L.map fun q=>mkT q.1
def bA (n:Nat) (k:Lnk):Nms:=if n=0 then k.1 else k.2.1
def cP (K:PySem.W.Frag) (H:Hp) (v:V) (L R:List Prt) (ks:List Lnk) (al:Nms):Prop:=∃ (p pl pr pk pa:Addr) (ls rs us:List V),v=.ref p∧SqT K H p [.ref pl,.ref pr,.ref pk,.ref pa]∧SqT K H pl ls∧cg H ls (L.map bG)∧SqT K H pr rs∧cg H rs (R.map bG)∧SqT K H pk us∧cg H us (ks.map bK)∧SqT K H pa (al.map mkT)
theorem cP.same {K:PySem.W.Frag} {H H':Hp} {v:V} {L R:List Prt} {ks:List Lnk} {al:Nms} (s:Same H H') (h:cP K H v L R ks al):cP K H' v L R ks al:=by
 obtain ⟨p,pl,pr,pk,pa,ls,rs,us,rfl,a1,a2,a3,a4,a5,a6,a7,a8⟩:=h
 exact ⟨p,pl,pr,pk,pa,ls,rs,us,rfl,stT s a1,stT s a2,a3.same s,stT s a4,a5.same s,stT s a6,a7.same s,stT s a8⟩
theorem cP.empty {K:PySem.W.Frag} {e:Addr} {H:Hp} (h:Iu K e):cP K H (.ref e) [] [] [] []:=by
 obtain ⟨e0,e1,e2,e3,h,h0,h1,h2,h3⟩:=h
 exact ⟨e,e0,e1,e2,e3,[],[],[],rfl,h.sq,h0.sq,trivial,h1.sq,trivial,h2.sq,trivial,h3.sq⟩
theorem vU {H:Hp}:∀ {cs:Nms} {vs:List V},cg H vs (cs.map sD)→vs=cs.map mkT
 | [],[],_=>rfl
 | _ :: cs,v :: vs,h=>by
  have e:v=mkT _:=h.1
  rw [e,vU h.2]
  rfl
 | [],_ :: _,h=>h.elim
 | _ :: _,[],h=>h.elim
theorem iG (H:Hp):∀ cs:Nms,cg H (cs.map mkT) (cs.map sD)
 | []=>trivial
 | _ :: cs=>⟨rfl,iG H cs⟩
theorem iV {H:Hp} {v:V} {L R:List Prt} {ks:List Lnk} {al:Nms} (h:Den H v (dH L R ks al)):∃ (p pl pr pk pa:Addr) (ls rs us:List V),v=.ref p∧H p=some (.tup [.ref pl,.ref pr,.ref pk,.ref pa])∧H pl=some (.tup ls)∧cg H ls (L.map bG)∧H pr=some (.tup rs)∧cg H rs (R.map bG)∧H pk=some (.tup us)∧cg H us (ks.map bK)∧H pa=some (.tup (al.map mkT)):=by
 obtain ⟨p,us,rfl,hp,hd⟩:=aQ h
 obtain ⟨b0,b1,b2,b3,rfl⟩:∃ b0 b1 b2 b3,us=[b0,b1,b2,b3]:=by
  match us,hd with
  | [b0,b1,b2,b3],_=>exact ⟨b0,b1,b2,b3,rfl⟩
  | [],h=>exact h.elim
  | [_],h=>exact h.2.elim
  | [_,_],h=>exact h.2.2.elim
  | [_,_,_],h=>exact h.2.2.2.elim
  | _ :: _ :: _ :: _ :: _ :: _,h=>exact h.2.2.2.2.elim
 obtain ⟨pl,ls,rfl,hpl,hdl⟩:=aQ hd.1
 obtain ⟨pr,rs,rfl,hpr,hdr⟩:=aQ hd.2.1
 obtain ⟨pk,ws,rfl,hpk,hdk⟩:=aQ hd.2.2.1
 obtain ⟨pa,as,rfl,hpa,hda⟩:=aQ hd.2.2.2.1
 rw [vU hda] at hpa
 exact ⟨p,pl,pr,pk,pa,ls,rs,ws,rfl,hp,hpl,hdl,hpr,hdr,hpk,hdk,hpa⟩
theorem cP.of {K:PySem.W.Frag} {H:Hp} {v:V} {L R:List Prt} {ks:List Lnk} {al:Nms} (h:Den H v (dH L R ks al)):cP K H v L R ks al:=by
 obtain ⟨p,pl,pr,pk,pa,ls,rs,us,rfl,a1,a2,a3,a4,a5,a6,a7,a8⟩:=iV h
 exact ⟨p,pl,pr,pk,pa,ls,rs,us,rfl,SqT.of a1,SqT.of a2,a3,SqT.of a4,a5,SqT.of a6,a7,SqT.of a8⟩
theorem j4 {α:Type} {p:α→Bool}:∀ {xs:List α} {i:Nat} (hi:i < xs.length),(∀ x∈xs.take i,p x=false)→p xs[i]=true→xs.find? p=some xs[i]
 | x :: xs,0,_,_,h=>by
  rw [List.find?_cons,show p x=true from h]
  rfl
 | x :: xs,i+1,hi,h0,h=>by
  rw [List.find?_cons,h0 x (by rw [List.take_succ_cons]; exact .head _)]
  exact j4 (by simpa using hi) (fun y hy=>h0 y (by rw [List.take_succ_cons]; exact .tail _ hy)) h
theorem iT {H:Hp} {v:V} {q:Prt} (h:Den H v (bG q)):∃ (b pm:Addr),v=.ref b∧H b=some (.tup [mkT q.1,mkT q.2.1,.ref pm])∧H pm=some (.tup (q.2.2.map V.int)):=by
 obtain ⟨b,bs,rfl,hb,hbd⟩:=aQ h
 match bs,hbd with
 | [c0,c1,c2],hbd =>
  have e0:c0=mkT q.1:=hbd.1
  have e1:c1=mkT q.2.1:=hbd.2.1
  obtain ⟨pm,ms,rfl,h1,h2⟩:=aQ hbd.2.2.1
  rw [Kg h2] at h1
  exact ⟨b,pm,rfl,by rw [hb,e0,e1],h1⟩
 | [],h=>exact h.elim
 | [_],h=>exact h.2.elim
 | [_,_],h=>exact h.2.2.elim
 | _ :: _ :: _ :: _ :: _,h=>exact h.2.2.2.elim
def bD (ps:List Prt) (x:List Nat):Option Prt:=ps.find? fun p=>decide (p.1=x)
def lK (K:PySem.W.Frag) (C:Addr):Sp:=fun vs H Q E=>∃ (v:V) (L R:List Prt) (ks:List Lnk) (al:Nms) (x:List Nat),vs=[v,mkT x]∧cP K H v L R ks al∧L.length≤60∧R.length≤60∧x.length≤1000 ∧
 (∀ p,bD (L++R) x=some p→∀ (u:V) (H':Hp),Same H H'→Den H' u (bG p)→Q u H')∧(bD (L++R) x=none→aZ C H E)
section
variable {P:Program} {w:World} {K:PySem.W.Frag} {mg:Str→Option Value} {base:Heap} {a_NoPart:Addr}
theorem uX:aK ["book", "name", "part"] ["book", "name"] (aC qp):=⟨rfl,rfl,rfl,by decide +kernel,rfl,by decide +kernel,by decide +kernel⟩
theorem yL (h:Has K mg "part_of" qp ["book", "name"]) (q_NoPart:mg "NoPart" = some (.ref a_NoPart)) (x_NoPart:PySem.W.excIn K a_NoPart vBm "ValueError.__new__" = true):cM P w K mg base "part_of" 1 ["book", "name"] (lK K a_NoPart):=by
 refine h.mk1 uX (fun vs H Q E hs=>?_) (fun f cdv A outer s H vs Q E hr hs=>?_)
 ·obtain ⟨v,L,R,ks,al,x,rfl,_⟩:=hs
  rfl
 obtain ⟨v,L,R,ks,al,x,rfl,hv,hlL,hlR,hlx,k1,k2⟩:=hs
 refine ⟨_,(ao (fQ PassesOwn.leaving rfl (dR (aV vK (aM aO (pv 0) aB (fun _ _=>rfl)) (aM aO (pv 0) aB (fun _ _=>rfl)))) (aU (i:=2) uX.nd rfl (Or.inl rfl))
   (aF (dM (bh nM (aM aO (pv 2) aB (fun _ _=>rfl)) (pv 1) (bZ _))
   (aF (bx (pv 2)))
   bN)))
  (aF (cO rfl c7 rfl q_NoPart x_NoPart (aj (eE (bC aA (bC (d7 (pv 1)) iz))) au)))),?_⟩
 obtain ⟨p,pl,pr,pk,pa,ls,rs,ws,rfl,hp,hpl,hdl,hpr,hdr,hpk,hdk,hpa⟩:=hv
 have at0:atI [V.ref pl,V.ref pr,V.ref pk,V.ref pa] 0=some (.ref pl):=aR _ _
 have at1:atI [V.ref pl,V.ref pr,V.ref pk,V.ref pa] 1=some (.ref pr):=aJ (xs:=[V.ref pl,V.ref pr,V.ref pk,V.ref pa]) (j:=1) rfl
 have hl1:=hdl.len
 have hl2:=hdr.len
 rw [List.length_map] at hl1 hl2
 refine ⟨_,rfl,p,_,_,_,rfl,rfl,hp,at0,_,rfl,p,_,_,_,rfl,rfl,hp,at1,pl,pr,_,_,rfl,rfl,hpl,hpr,small (by omega),fun q3 H3 s3 e3=>?_⟩
 have dA:cg H (ls++rs) ((L++R).map bG):=by
  rw [List.map_append]
  exact fD hdl hdr
 refine ⟨q3,rfl,⟨_,e3⟩,?_⟩
 refine mK (K:=K) (a:=q3) (xs:=ls++rs) (fun j σ H4=>∃ v2:Option V,σ=[some (.ref p),some (mkT x),v2]∧Same H H4∧SqT K H4 q3 (ls++rs)∧∀ q∈(L++R).take j,decide (q.1=x)=false) ⟨_,rfl,s3,e3,fun q hq=>by rw [List.take_zero] at hq; cases hq⟩ ?_ ?_ ?_
 ·rintro j σ H4 _ ⟨_,_,_,e4,_⟩
  exact e4
 ·rintro j y σ H4 hj ⟨v2,rfl,s4,e4,hno⟩
  obtain ⟨dd,hdd,dyp⟩:=dA.at_ hj
  have hnj:j < (L++R).length:=by
   have:=(List.getElem?_eq_some_iff.mp hdd).1
   rwa [List.length_map] at this
  rw [List.getElem?_map,List.getElem?_eq_getElem hnj] at hdd
  have edd:bG (L++R)[j]=dd:=Option.some.inj hdd
  subst edd
  have htk:(L++R).take (j+1)=(L++R).take j++[(L++R)[j]]:=by
   rw [List.take_add_one,List.getElem?_eq_getElem hnj]
   rfl
  have hfirst:decide ((L++R)[j].1=x)=true→bD (L++R) x=some (L++R)[j]:=fun h=>j4 hnj hno h
  generalize (L++R)[j]=q at dyp htk hfirst
  obtain ⟨bq,pm,rfl,hbq,hpm⟩:=iT (dyp.same s4)
  refine gN ⟨_,rfl,bq,_,_,_,rfl,rfl,SqT.of hbq,aR _ _,_,rfl,rfl,_,rfl,?_⟩
  have ez:∀ a b:List Nat,decide (mkT a=mkT b)=decide (a=b):=fun a b=>by
   by_cases h:a=b
   ·subst h; simp
   ·rw [decide_eq_false h]
    exact decide_eq_false fun z=>h (by injection z with z; injection z with z; exact (Array.mk.inj z))
  refine fV (fun z=>?_) (fun z=>?_)
  ·have z':decide (q.1=x)=true:=by rw [← ez]; exact z
   exact ⟨_,rfl,k1 q (hfirst z') _ _ s4 (dyp.same s4)⟩
  ·have z':decide (q.1=x)=false:=by rw [← ez]; exact Bool.eq_false_iff.mpr z
   refine ⟨_,rfl,s4,e4,fun q' hq'=>?_⟩
   rw [htk] at hq'
   rcases List.mem_append.mp hq' with h | h
   ·exact hno q' h
   ·rw [List.mem_singleton.mp h]; exact z'
 ·rintro σ H4 ⟨v2,rfl,s4,e4,hno⟩
  have hn:bD (L++R) x=none:=List.find?_eq_none.mpr fun q hq=>by
   have hlen:(ls++rs).length=(L++R).length:=by rw [List.length_append,List.length_append,hl1,hl2]
   have:=hno q (by rw [hlen,List.take_length]; exact hq)
   rw [this]; decide
  have th:=(k2 hn).up s4
  have hx1:(⟨x.toArray⟩:Str).length≤sizeLine:=by
   show x.toArray.size≤sizeLine
   rw [List.size_toArray]; exact Nat.le_of_lt (aN hlx)
  have hx2:((Str.empty++Str.ofString "there is no part ")++(⟨x.toArray⟩:Str)).length≤sizeLine:=by
   rw [strLen_append]
   have e1:(Str.empty++Str.ofString "there is no part ").length=17:=by decide +kernel
   rw [e1]
   show 17+x.toArray.size≤sizeLine
   rw [List.size_toArray]
   exact Nat.le_trans (Nat.add_le_add_left hlx 17) (by decide)
  refine ⟨_,rfl,by decide +kernel,_,rfl,.inl ⟨_,rfl,hx1,_,rfl,hx2,hx2,?_⟩⟩
  exact ⟨smn 1,fun e T he hT=>th.made he hT⟩
end
def qt (K:PySem.W.Frag) (C:Addr):Sp:=fun vs H Q E=>∃ (v:V) (L R:List Prt) (ks:List Lnk) (al:Nms) (x:List Nat),vs=[v,mkT x]∧cP K H v L R ks al∧L.length≤60∧R.length≤60∧x.length≤1000 ∧
 (∀ p,bD (L++R) x=some p→∀ (H':Hp),Same H H'→Q (mkT p.2.1) H')∧(bD (L++R) x=none→aZ C H E)
theorem pL (a b:Prt):Sim (bG a) (bG b):=by
 unfold bG
 exact oX (eX (pY _ _) (eX (pY _ _) (eX (sY _ _) (rQ _))))
theorem jz {q:Prt} (h:q.2.2.length≤1000):fH 2 (bG q):=by
 refine dX (by simp) fun d hd=>?_
 simp only [List.mem_cons,List.not_mem_nil,or_false] at hd
 rcases hd with rfl | rfl | rfl
 ·exact (jA _).up
 ·exact (jA _).up
 ·exact qC h
theorem BW {a b:Prt} (h:bG a=bG b):a.1=b.1:=by
 unfold bG at h
 injection h with h
 injection h with h _
 injection h with h
 injection h with h
 exact Array.mk.inj h
theorem Gz {L R:List Prt} {x:List Nat} {p:Prt} (h:bD (L++R) x=some p):(L.map bG).any (fun e=>eqD e (bG p))=(bD L x).isSome:=by
 unfold bD at h ⊢
 rw [List.find?_append] at h
 cases q:L.find? (fun p=>decide (p.1=x)) with
 | some r =>
  rw [q] at h
  cases h
  rw [Option.isSome_some,List.any_eq_true]
  exact ⟨_,List.mem_map_of_mem (List.mem_of_find?_eq_some q),gn.mpr rfl⟩
 | none =>
  rw [q] at h
  have h':R.find? (fun p=>decide (p.1=x))=some p:=h
  have hx:p.1=x:=of_decide_eq_true (List.find?_some (p:=fun p:Prt=>decide (p.1=x)) h')
  rw [Option.isSome_none,List.any_eq_false]
  intro e he z
  obtain ⟨r,hr,rfl⟩:=List.mem_map.mp he
  have:=BW (gn.mp z)
  exact List.find?_eq_none.mp q r hr (decide_eq_true (this.trans hx))
def fu (K:PySem.W.Frag) (C:Addr):Sp:=fun vs H Q E=>∃ (v:V) (L R:List Prt) (ks:List Lnk) (al:Nms) (x:List Nat),vs=[v,mkT x]∧cP K H v L R ks al∧L.length≤60∧R.length≤60∧x.length≤1000∧(∀ p∈L++R,p.2.2.length≤1000) ∧
 (∀ p,bD (L++R) x=some p→∀ (H':Hp),Same H H'→Q (.int (if (bD L x).isSome then 0 else 1)) H')∧(bD (L++R) x=none→aZ C H E)
section
variable {P:Program} {w:World} {K:PySem.W.Frag} {mg:Str→Option Value} {base:Heap} {a_NoPart:Addr}
theorem Br:aK ["book", "name"] ["book", "name"] (aC pP):=⟨rfl,rfl,rfl,by decide +kernel,rfl,by decide +kernel,by decide +kernel⟩
theorem zL (h:Has K mg "text_of" pP ["book", "name"]) (C_part_of:cM P w K mg base "part_of" 1 ["book", "name"] (lK K a_NoPart)):cM P w K mg base "text_of" 2 ["book", "name"] (qt K a_NoPart):=by
 refine h.mk1 Br (fun vs H Q E hs=>?_) (fun f cdv A outer s H vs Q E hr hs=>?_)
 ·obtain ⟨v,L,R,ks,al,x,rfl,_⟩:=hs
  rfl
 obtain ⟨v,L,R,ks,al,x,rfl,hv,hlL,hlR,hlx,k1,k2⟩:=hs
 refine ⟨_,(aF (bx (aM aO (aW C_part_of hr (by decide) rfl bB (aj (pv 0) (aj (pv 1) au))) aB (fun _ _=>rfl)))),?_⟩
 refine ⟨_,rfl,_,rfl,v,L,R,ks,al,x,rfl,hv,hlL,hlR,hlx,fun p hp u H' s' d=>?_,fun z=>(k2 z).out⟩
 obtain ⟨b,pm,rfl,hb,hpm⟩:=iT d
 exact ⟨b,_,_,_,rfl,rfl,SqT.of hb,aJ (xs:=[mkT p.1,mkT p.2.1,V.ref pm]) (j:=1) rfl,k1 p hp H' s'⟩
theorem Dk:aK ["book", "name"] ["book", "name"] (aC qg):=⟨rfl,rfl,rfl,by decide +kernel,rfl,by decide +kernel,by decide +kernel⟩
theorem Am (h:Has K mg "side_of" qg ["book", "name"]) (C_part_of:cM P w K mg base "part_of" 1 ["book", "name"] (lK K a_NoPart)):cM P w K mg base "side_of" 2 ["book", "name"] (fu K a_NoPart):=by
 refine h.mk1 Dk (fun vs H Q E hs=>?_) (fun f cdv A outer s H vs Q E hr hs=>?_)
 ·obtain ⟨v,L,R,ks,al,x,rfl,_⟩:=hs
  rfl
 obtain ⟨v,L,R,ks,al,x,rfl,hv,hlL,hlR,hlx,hmo,k1,k2⟩:=hs
 refine ⟨_,(aF (bx (vP (bh (HF hr.units) (aW C_part_of hr (by decide) rfl bB (aj (pv 0) (aj (pv 1) au))) (aM aO (pv 0) aB (fun _ _=>rfl)) (by with_unfolding_all rfl)) aB aB))),?_⟩
 refine ⟨_,rfl,_,rfl,v,L,R,ks,al,x,rfl,hv,hlL,hlR,hlx,fun p hp u H' s' d=>?_,fun z=>(k2 z).out⟩
 obtain ⟨pb,pl,pr,pk,pa,ls,rs,ws,rfl,hpb,hpl,hdl,hpr,hdr,hpk,hdk,hpa⟩:=hv
 have at0:atI [V.ref pl,V.ref pr,V.ref pk,V.ref pa] 0=some (.ref pl):=aR _ _
 have hpm:p∈L++R:=List.mem_of_find?_eq_some hp
 refine ⟨_,rfl,pb,_,_,_,rfl,rfl,(stT s' hpb),at0,pl,ls,bG p,L.map bG,2,rfl,.inr (stT s' hpl),d,hdl.same s',(fun e he=>?_),⟨_,rfl⟩,jz (hmo p hpm),(fun e he=>?_),by decide,?_⟩
 ·obtain ⟨r,_,rfl⟩:=List.mem_map.mp he
  exact ⟨_,rfl⟩
 ·obtain ⟨r,hr,rfl⟩:=List.mem_map.mp he
  exact ⟨jz (hmo r (List.mem_append_left _ hr)),pL _ _⟩
 rw [Gz hp]
 have kk:=k1 p hp H' s'
 refine ⟨_,rfl,?_⟩
 cases hq:(bD L x).isSome with
 | true =>
  rw [hq] at kk
  exact kk
 | false =>
  rw [hq] at kk
  exact kk
end
def rK (K:PySem.W.Frag):Sp:=fun vs H Q _=>∃ (v:V) (L R:List Prt) (ks:List Lnk) (al:Nms),vs=[v]∧cP K H v L R ks al∧L.length≤1000∧R.length≤1000∧∀ (q:Addr) (H':Hp),Same H H'→H' q=some (.tup (jd (L++R)))→Q (.ref q) H'
section
variable {P:Program} {w:World} {K:PySem.W.Frag} {mg:Str→Option Value} {base:Heap}
theorem yR:aK ["book"] ["book"] (aC jV):=⟨rfl,rfl,rfl,by decide +kernel,rfl,by decide +kernel,by decide +kernel⟩
theorem wz (h:Has K mg "names_of" jV ["book"]) (m_tuple:mg "tuple" = none):Cal P w K mg base "names_of" 1 ["book"] (rK K):=by
 refine h.mk' yR (fun vs H Q E hs=>?_) (fun f cdv A outer s H vs Q E hr hs=>?_)
 ·obtain ⟨v,L,R,ks,al,rfl,_⟩:=hs
  rfl
 obtain ⟨v,L,R,ks,al,rfl,hv,hl,hr',k⟩:=hs
 refine ⟨_,(aF (bx (cD bL rfl m_tuple boot_tuple (aj (cN ["book"] (aC jV) ["part"] [none] rfl rfl rfl (dR (aV vK (aM aO (pv 0) aB (fun _ _=>rfl)) (aM aO (pv 0) aB (fun _ _=>rfl)))) rfl (by decide +kernel) (by decide +kernel) (by decide +kernel) (by decide +kernel) (hg:=fun cl C s H ex pn E=>(aU (i:=0) (by decide +kernel:(["part"]:List Str).Nodup) rfl (Or.inl rfl))) (ht:=fun cl C s H ex pn E=>cJ) (he:=fun cl C s H ex pn E=>(aM (fL (K:=K) rfl) (pv 0) aB (fun _ _=>rfl)))) au)))),?_⟩
 obtain ⟨p,pl,pr,pk,pa,ls,rs,us,rfl,hp,hpl,hdl,hpr,hdr,_⟩:=hv
 have l1:=hdl.len
 have l2:=hdr.len
 rw [List.length_map] at l1 l2
 refine ⟨_,rfl,p,_,_,_,rfl,rfl,hp,aR _ _,_,rfl,p,_,_,_,rfl,rfl,hp,aJ (xs:=[V.ref pl,V.ref pr,V.ref pk,V.ref pa]) (j:=1) rfl,?_⟩
 refine ⟨pl,pr,_,_,rfl,rfl,hpl,hpr,Nat.le_trans (show _≤1000000 by omega) bR,fun q2 H2 s2 e2=>?_⟩
 have dA:cg H2 (ls++rs) ((L++R).map bG):=by
  rw [List.map_append]
  exact fD (hdl.same s2) (hdr.same s2)
 generalize ls++rs=us at e2 dA
 generalize hLR:L++R=qs at dA k
 have hql:qs.length≤2000:=by rw [← hLR,List.length_append]; omega
 have hul:=dA.len
 rw [List.length_map] at hul
 refine ⟨q2,rfl,⟨_,e2⟩,fun lc hlc=>?_⟩
 refine gK (J:=Itt K q2) (l:=lc) us.length (fun i σ' H'=>∃ (v:Option V),σ'=[v]∧Same H2 H'∧H' lc=some (.lst (jd (qs.take i)))) ⟨none,rfl,aq hlc _,ak⟩ ?_ ?_
 ·rintro σ' H' ⟨v,rfl,hs,hl'⟩
  rw [hul,List.take_length] at hl'
  refine ⟨⟨_,(stT hs e2),Nat.le_refl _⟩,lc,_,rfl,.inl ⟨SqL.of hl',fun q3 hq3=>?_⟩⟩
  exact k q3 _ ((s2.trans hs).trans (aq hq3 _)) ak
 ·rintro i σ' H' hi ⟨v,rfl,hs,hl'⟩
  have hat:us[i]?=some us[i]:=List.getElem?_eq_getElem hi
  refine ⟨⟨_,_,(stT hs e2),hat⟩,?_⟩
  rintro y H'' ⟨rfl,hy⟩
  have ey:y=us[i]:=Option.some.inj ((hy _ ((stT hs e2))).symm.trans hat)
  have hni:i < qs.length:=by omega
  obtain ⟨dd,hdd,dy⟩:=dA.at_ hat
  rw [← ey] at dy
  rw [List.getElem?_map,List.getElem?_eq_getElem hni] at hdd
  have edd:bG qs[i]=dd:=Option.some.inj hdd
  subst edd
  obtain ⟨b,bs,rfl,hb,hbd⟩:=aQ (dy.same hs)
  obtain ⟨c0,cs,rfl⟩:∃ c0 cs,bs=c0 :: cs:=by
   cases bs with
   | nil=>exact hbd.elim
   | cons c0 cs=>exact ⟨c0,cs,rfl⟩
  have ec:c0=mkT qs[i].1:=hbd.1
  subst ec
  refine gN (vf (rR ?_))
  refine ⟨_,rfl,b,_,_,_,rfl,rfl,SqT.of hb,aR _ _,_,hl',?_,_,rfl,?_,?_⟩
  ·rw [jd,List.length_map,List.length_take]
   exact Nat.lt_of_lt_of_le (show min i qs.length < 1000000 by omega) bR
  ·intro c o z
   have hlH:H2 lc=none:=hlc
   rw [aG (aD z hlH)]
   exact hs c o z
  ·rw [ak,List.take_add_one,List.getElem?_eq_getElem hni,jd,jd,List.map_append]
   rfl
end
theorem Bp {a b:List Nat} (h:mkT a=mkT b):a=b:=by
 injection h with h
 injection h with h
 exact Array.mk.inj h
theorem Jz (a b:List Nat):decide (mkT a=mkT b)=decide (a=b):=by
 by_cases h:a=b
 ·subst h; simp
 ·rw [decide_eq_false h]
  exact decide_eq_false fun z=>h (Bp z)
theorem Ml {xs:List V} {r:Nat} (h:r≤xs.length):uP xs none (some (r:Int))=xs.take r:=by
 unfold uP
 rw [HT.yu,HT.vI,Nat.min_eq_left h]
 simp
theorem Lh {xs:List V} {r:Nat} (h:r≤xs.length):uP xs (some (r:Int)) none=xs.drop r:=by
 unfold uP
 rw [HT.yu,HT.vI,Nat.min_eq_left h]
 exact List.take_of_length_le (by rw [List.length_drop]; omega)
theorem Fl (xs:List V) (n:Nat) (t:V) (h:n < xs.length):xs.take n++[t]++xs.drop (n+1)=xs.set n t:=by
 rw [List.set_eq_take_append_cons_drop,if_pos h,List.append_assoc]
 rfl
def rU (K:PySem.W.Frag):Sp:=fun vs H Q _=>∃ (v:V) (L R:List Prt) (ks:List Lnk) (al:Nms) (x:List Nat),vs=[v,mkT x]∧cP K H v L R ks al∧L.length≤60∧R.length≤60∧∀ H',Same H H'→Q (.bl (bD (L++R) x).isSome) H'
def nU:Sp:=fun vs H Q _=>∃ (p:Addr) (us:List V) (n:Nat) (t:V),vs=[.ref p,.int (n:Nat),t]∧H p=some (.tup us)∧n < us.length∧us.length≤900∧∀ (q:Addr) (H':Hp),Same H H'→H' q=some (.tup (us.set n t))→Q (.ref q) H'
def plc (L:List Prt) (b:List Nat):Nat:=if b=[] then 0 else (L.findIdx fun p=>decide (p.1=b))+1
def wj (L:List Prt) (b:List Nat) (q:Prt):List Prt:=L.take (plc L b)++q :: L.drop (plc L b)
def Er:Sp:=fun vs H Q _=>∃ (p:Addr) (us:List V) (L:List Prt) (b:List Nat) (t:V) (q:Prt),vs=[.ref p,mkT b,t]∧H p=some (.tup us)∧cg H us (L.map bG)∧L.length≤900∧Den H t (bG q)∧(b=[]∨b∈L.map (·.1)) ∧
 ∀ (r:Addr) (ws:List V) (H':Hp),Same H H'→H' r=some (.tup ws)→cg H' ws ((wj L b q).map bG)→Q (.ref r) H'
def aP (L:List Prt) (x:List Nat):Nat:=if (bD L x).isSome then 0 else 1
def qH (K:PySem.W.Frag) (C C2:Addr):Sp:=fun vs H Q E=>∃ (v:V) (L R:List Prt) (ks:List Lnk) (al:Nms) (n:Nat) (b:List Nat),vs=[v,.int (n:Nat),mkT b]∧cP K H v L R ks al∧L.length≤60∧R.length≤60∧b.length≤1000∧(∀ p∈L++R,p.2.2.length≤1000) ∧
 ((b=[]∨(bD (L++R) b).isSome=true∧aP L b=n)→∀ H',Same H H'→Q .non H')∧(b≠[]→bD (L++R) b=none→aZ C H E)∧(b≠[]→(bD (L++R) b).isSome=true→aP L b≠n→aZ C2 H E)
def Fb (K:PySem.W.Frag) (C:Addr):Sp:=fun vs H Q E=>∃ (v:V) (L R:List Prt) (ks:List Lnk) (al:Nms) (x:List Nat),vs=[v,mkT x]∧cP K H v L R ks al∧L.length≤60∧R.length≤60∧x.length≤1000 ∧
 ((bD (L++R) x)=none→∀ H',Same H H'→Q .non H')∧((bD (L++R) x).isSome=true→aZ C H E)
theorem lB (x:List Nat) (xs:Nms):inV (mkT x) (xs.map mkT)=decide (x∈xs):=by
 have e:xs.map mkT=(xs.map fun x=>(⟨x.toArray⟩:Str)).map V.str:=by rw [List.map_map]; rfl
 rw [e,xV,Bool.eq_iff_iff,decide_eq_true_eq,decide_eq_true_eq]
 constructor
 ·intro h
  obtain ⟨y,hy,e⟩:=List.mem_map.mp h
  have:y=x:=by injection e with e; exact Array.mk.inj e
  rw [← this]; exact hy
 ·exact fun h=>List.mem_map.mpr ⟨x,h,rfl⟩
theorem dY (xs:Nms):(xs.map mkT).all jr=true:=by
 rw [List.all_eq_true]
 intro v hv
 obtain ⟨x,_,rfl⟩:=List.mem_map.mp hv
 rfl
theorem yc (L:List Prt):jd L=(L.map (·.1)).map mkT:=by
 unfold jd
 rw [List.map_map]
 rfl
theorem fU {L:List Prt} {x:List Nat}:(bD L x).isSome=decide (x∈L.map (·.1)):=by
 unfold bD
 rw [Bool.eq_iff_iff,List.find?_isSome,decide_eq_true_eq,List.mem_map]
 exact ⟨fun ⟨p,h1,h2⟩=>⟨p,h1,of_decide_eq_true h2⟩,fun ⟨p,h1,h2⟩=>⟨p,h1,decide_eq_true h2⟩⟩
theorem Ax {L:List Prt} {b:List Nat} (h:b∈L.map (·.1)):∃ hj:(L.findIdx fun p=>decide (p.1=b)) < L.length,L[L.findIdx fun p=>decide (p.1=b)].1=b∧∀ (i:Nat) (hi:i < L.length),i < (L.findIdx fun p=>decide (p.1=b))→L[i].1≠b:=by
 obtain ⟨p,hp,e⟩:=List.mem_map.mp h
 have hj:(L.findIdx fun p=>decide (p.1=b)) < L.length:=List.findIdx_lt_length_of_exists ⟨p,hp,decide_eq_true e⟩
 exact ⟨hj,of_decide_eq_true (List.findIdx_getElem (w:=hj)),fun i hi hlt z=>(by have:=List.not_of_lt_findIdx hlt; rw [z] at this; simp at this)⟩
theorem JC {L:List Prt} {b:List Nat} (h:b=[]∨b∈L.map (·.1)):plc L b≤L.length:=by
 unfold plc
 split
 ·exact Nat.zero_le _
 ·rename_i hb
  obtain ⟨hj,_⟩:=Ax (h.resolve_left hb)
  omega
theorem rm {H:Hp}:∀ (n:Nat) {us:List V} {ds:List D},cg H us ds→cg H (us.take n) (ds.take n)
 | 0,_,_,_=>trivial
 | n+1,[],[],_=>trivial
 | n+1,_ :: _,_ :: _,h=>⟨h.1,rm n h.2⟩
 | n+1,[],_ :: _,h=>h.elim
 | n+1,_ :: _,[],h=>h.elim
theorem qW {H:Hp}:∀ (n:Nat) {us:List V} {ds:List D},cg H us ds→cg H (us.drop n) (ds.drop n)
 | 0,_,_,h=>h
 | n+1,[],[],_=>trivial
 | n+1,_ :: _,_ :: _,h=>qW n h.2
 | n+1,[],_ :: _,h=>h.elim
 | n+1,_ :: _,[],h=>h.elim
theorem Kd (a b:List Nat):eqV (mkT a) (mkT b)=decide (a=b):=by
 show ((⟨a.toArray⟩:Str) == ⟨b.toArray⟩)=_
 by_cases h:a=b
 ·subst h; simp
 ·rw [decide_eq_false h]
  exact beq_eq_false_iff_ne.mpr fun z=>h (by injection z with z; exact Array.mk.inj z)
theorem lV (x:List Nat):(⟨x.toArray⟩:Str).length=x.length:=by
 show x.toArray.size=_
 rw [List.size_toArray]
theorem bF {n:Nat} (h:n≤10000):n≤sizeLine:=Nat.le_trans (show n≤1000000 by omega) bR
theorem FZ:Str.empty.length=0:=rfl
theorem Ju {c:String} {x:List Nat} (hx:x.length≤1000) (hc:(Str.ofString c).length≤100):((Str.empty++Str.ofString c)++(⟨x.toArray⟩:Str)).length≤sizeLine:=by
 rw [strLen_append,strLen_append]
 have h1:=lV x
 have h2:=FZ
 exact bF (by omega)
theorem oH {c:String} {x:List Nat} (hx:x.length≤1000) (hc:(Str.ofString c).length≤100):((Str.empty++(⟨x.toArray⟩:Str))++Str.ofString c).length≤sizeLine:=by
 rw [strLen_append,strLen_append]
 have h1:=lV x
 have h2:=FZ
 exact bF (by omega)
section
variable {P:Program} {w:World} {K:PySem.W.Frag} {mg:Str→Option Value} {base:Heap} {a_NoPart a_NoPlace a_Twice:Addr}
theorem zB:aK ["book", "name"] ["book", "name"] (aC lE):=⟨rfl,rfl,rfl,by decide +kernel,rfl,by decide +kernel,by decide +kernel⟩
theorem vX (h:Has K mg "has_part" lE ["book", "name"]) (C_names_of:Cal P w K mg base "names_of" 1 ["book"] (rK K)):Cal P w K mg base "has_part" 2 ["book", "name"] (rU K):=by
 refine h.mk' zB (fun vs H Q E hs=>?_) (fun f cdv A outer s H vs Q E hr hs=>?_)
 ·obtain ⟨v,L,R,ks,al,x,rfl,_⟩:=hs
  rfl
 obtain ⟨v,L,R,ks,al,x,rfl,hv,h1,h2,k⟩:=hs
 refine ⟨_,(aF (bx (fJ iD (pv 1) (aY C_names_of hr (by decide) rfl (aj (pv 0) au)) (by with_unfolding_all rfl)))),?_⟩
 refine ⟨_,rfl,_,rfl,v,L,R,ks,al,rfl,hv,by omega,by omega,fun q H1 s1 e1=>?_⟩
 refine ⟨q,_,rfl,.inr (SqT.of e1),rfl,by rw [yc]; exact dY _,?_⟩
 rw [show (if false=true then !inV (mkT x) (jd (L++R)) else inV (mkT x) (jd (L++R)))=inV (mkT x) (jd (L++R)) from rfl,yc,lB,← fU]
 exact k H1 s1
theorem wR:aK ["row", "place", "thing"] ["row", "place", "thing"] (aC jB):=⟨rfl,rfl,rfl,by decide +kernel,rfl,by decide +kernel,by decide +kernel⟩
theorem wQ (h:Has K mg "replaced" jB ["row", "place", "thing"])  : Cal P w K mg base "replaced" 1 ["row", "place", "thing"] nU:=by
 refine h.mk' wR (fun vs H Q E hs=>?_) (fun f cdv A outer s H vs Q E hr hs=>?_)
 ·obtain ⟨p,us,n,t,rfl,_⟩:=hs
  rfl
 obtain ⟨p,us,n,t,rfl,hp,hn,hl,k⟩:=hs
 refine ⟨_,(aF (bx (aV gq (aV gq (eZ pQ (pv 0) iH (g8 (pv 1))) (cH (aj (pv 2) au))) (eZ pQ (pv 0) (g8 (aV fG (pv 1) aB)) iH)))),?_⟩
 refine ⟨_,rfl,_,rfl,_,rfl,p,us,rfl,hp,fun p1 H1 s1 e1=>?_⟩
 rw [Ml (by omega)] at e1
 refine ⟨_,rfl,smn 1,fun p2 hp2=>?_⟩
 have s2:=aq hp2 (.tup [t])
 have e2:(upd H1 p2 (.tup [t])) p2=some (.tup [t]):=ak
 generalize upd H1 p2 (.tup [t])=H2 at s2 e2 ⊢
 refine ⟨p1,p2,_,_,rfl,rfl,s2 _ _ e1,e2,small (by rw [List.length_take]; show _+1≤1000; omega),fun p3 H3 s3 e3=>?_⟩
 have s13:=(s1.trans s2).trans s3
 refine ⟨_,rfl,_,rfl,_,_,rfl,rfl,_,rfl,p,us,rfl,s13 _ _ hp,fun p4 H4 s4 e4=>?_⟩
 have e4':H4 p4=some (.tup (us.drop (n+1))):=by
  have e:uP us (some (((n:Nat):Int)+1)) none=us.drop (n+1):=Lh (r:=n+1) (by omega)
  rw [← e]
  exact e4
 refine ⟨p3,p4,_,_,rfl,rfl,s4 _ _ e3,e4',small (by rw [List.length_append,List.length_take,List.length_drop]; show _+1+_≤1000; omega),fun p5 H5 s5 e5=>?_⟩
 rw [Fl _ _ _ hn] at e5
 exact k p5 H5 ((s13.trans s4).trans s5) e5
theorem ju:aK ["parts", "behind", "part", "place"] ["parts", "behind", "part"] (aC fY):=⟨rfl,rfl,rfl,by decide +kernel,rfl,by decide +kernel,by decide +kernel⟩
theorem qX (h:Has K mg "parts_with" fY ["parts", "behind", "part"])  : Cal P w K mg base "parts_with" 1 ["parts", "behind", "part"] Er:=by
 refine h.mk' ju (fun vs H Q E hs=>?_) (fun f cdv A outer s H vs Q E hr hs=>?_)
 ·obtain ⟨p,us,L,b,t,q,rfl,_⟩:=hs
  rfl
 obtain ⟨p,us,L,b,t,q,rfl,hp,hd,hl,ht,hb,k⟩:=hs
 refine ⟨_,(ao (aH (i:=3) ju.nd rfl (Or.inl rfl) aB)
  (ao (dM (bh oY (pv 1) aA (bZ _))
   (aF (aH (i:=3) ju.nd rfl (Or.inl rfl) (aV fG (gD PySem.F.plainAttrs_list PySem.F.slot_list_index PySem.F.type_list_index rB (cN ["parts", "behind", "part", "place"] (aC fY) ["each"] [none] rfl rfl rfl (dR (pv 0)) rfl (by decide +kernel) (by decide +kernel) (by decide +kernel) (by decide +kernel) (hg:=fun cl C s H ex pn E=>(aU (i:=0) (by decide +kernel:(["each"]:List Str).Nodup) rfl (Or.inl rfl))) (ht:=fun cl C s H ex pn E=>cJ) (he:=fun cl C s H ex pn E=>(aM (fL (K:=K) rfl) (pv 0) aB (fun _ _=>rfl)))) (aj (pv 1) au)) aB)))
   bN)
  (aF (bx (aV gq (aV gq (eZ pQ (pv 0) iH (g8 (pv 3))) (cH (aj (pv 2) au))) (eZ pQ (pv 0) (g8 (pv 3)) iH)))))),?_⟩
 have hul:=hd.len
 rw [List.length_map] at hul
 have hpl:=JC hb
 refine gN ?_
 refine nxP (fun σ H'=>σ=[some (.ref p),some (mkT b),some t,some (.int (plc L b:Nat))]∧Same H H') (fun N hN=>?_) ?_
 ·refine ⟨_,rfl,rfl,_,rfl,?_⟩
  refine fV (fun z=>?_) (fun z=>?_)
  ·have hb0:b≠[]:=fun e=>by rw [e] at z; exact absurd z (by decide +kernel)
   refine ⟨_,rfl,p,rfl,⟨_,SqT.of hp⟩,fun lc hlc=>?_⟩
   refine cY (J:=Itt K p) (l:=lc) us.length (fun i σ' H'=>∃ v:Option V,σ'=[v]∧Same H H'∧H' lc=some (.lst (jd (L.take i)))) ⟨none,rfl,aq hlc _,ak⟩ ?_ ?_
   rotate_left
   ·rintro i σ' H' hi ⟨v,rfl,s1,e1⟩
    have hil:i < L.length:=by omega
    refine ⟨⟨_,_,SqT.of (s1 _ _ hp),bM hi⟩,?_⟩
    rintro N2 hN2 y H'' ⟨rfl,hy⟩
    have ey:y=us[i]:=Option.some.inj ((hy _ (SqT.of (s1 _ _ hp))).symm.trans (bM hi))
    have dy:Den H us[i] (bG L[i]):=at_of hd (bM hi) (by rw [List.getElem?_map,bM hil]; rfl)
    have htk:=take_one (bM hil)
    rw [← ey] at dy
    generalize L[i]=r at dy htk
    obtain ⟨c,pm,rfl,hc,hpm⟩:=iT (dy.same s1)
    refine gN (vf (rR ⟨_,rfl,c,_,_,_,rfl,rfl,SqT.of hc,aR _ _,_,e1,aN (by unfold jd; rw [List.length_map,List.length_take]; omega),hN2 _ _ ⟨_,rfl,aL s1 hlc,?_⟩⟩))
    rw [ak,htk]
    unfold jd
    rw [List.map_append]
    rfl
   rintro σ' H1 ⟨v,rfl,s1,e1⟩
   rw [hul,List.take_length] at e1
   obtain ⟨hj,h1,h2⟩:=Ax (hb.resolve_left hb0)
   have hpe:plc L b=(L.findIdx fun p=>decide (p.1=b))+1:=by
    unfold plc
    rw [if_neg hb0]
   generalize (L.findIdx fun p=>decide (p.1=b))=j at hj h1 h2 hpe
   have hat:(jd L)[j]?=some (mkT L[j].1):=by
    unfold jd
    rw [List.getElem?_map,bM hj]
    rfl
   refine ⟨⟨_,SqT.of (s1 _ _ hp),Nat.le_refl _⟩,.inl ⟨rfl,_,SqL.of e1⟩,_,rfl,lc,_,mkT b,_,j,rfl,rfl,e1,rfl,by rw [yc]; exact dY _,hat,by rw [Kd]; exact decide_eq_true h1,fun i z hi hz=>?_,_,_,rfl,rfl,hN _ _ ⟨?_,s1⟩⟩
   ·unfold jd at hz
    rw [List.getElem?_map,bM (show i < L.length by omega)] at hz
    rw [← Option.some.inj hz,Kd]
    exact decide_eq_false (h2 i (by omega) hi)
   ·rw [hpe]
    rfl
  ·have hb0:b=[]:=by
    by_cases e:b=[]
    ·exact e
    ·refine absurd ?_ z
     have:decide (mkT b=mkT [])=false:=by rw [Jz]; exact decide_eq_false e
     show (!decide (mkT b=V.str (Str.ofString "")))=true
     have e2:V.str (Str.ofString "")=mkT []:=by decide +kernel
     rw [e2,this]
     rfl
   refine hN _ _ ⟨?_,Same.refl _⟩
   unfold plc
   rw [if_pos hb0]
   rfl
 rintro σ H1 ⟨rfl,s1⟩
 refine ⟨_,rfl,_,rfl,_,rfl,p,us,rfl,s1 _ _ hp,fun p1 H2 s2 e2=>?_⟩
 rw [Ml (by omega)] at e2
 refine ⟨_,rfl,smn 1,fun p2 hp2=>?_⟩
 have s3:=aq hp2 (.tup [t])
 have e3:(upd H2 p2 (.tup [t])) p2=some (.tup [t]):=ak
 generalize upd H2 p2 (.tup [t])=H3 at s3 e3 ⊢
 refine ⟨p1,p2,_,_,rfl,rfl,s3 _ _ e2,e3,small (by rw [List.length_take]; show _+1≤1000; omega),fun p4 H4 s4 e4=>?_⟩
 have s14:=((s1.trans s2).trans s3).trans s4
 refine ⟨_,rfl,_,rfl,_,rfl,p,us,rfl,s14 _ _ hp,fun p5 H5 s5 e5=>?_⟩
 rw [Lh (by omega)] at e5
 refine ⟨p4,p5,_,_,rfl,rfl,s5 _ _ e4,e5,small (by rw [List.length_append,List.length_take,List.length_drop]; show _+1+_≤1000; omega),fun p6 H6 s6 e6=>?_⟩
 have s16:=(s14.trans s5).trans s6
 refine k p6 _ H6 s16 e6 ?_
 unfold wj
 rw [List.map_append,List.map_cons,List.map_take,List.map_drop,List.append_assoc]
 exact fD (rm _ (hd.same s16)) ⟨ht.same s16,qW _ (hd.same s16)⟩
theorem pG:aK ["book", "side", "behind"] ["book", "side", "behind"] (aC eV):=⟨rfl,rfl,rfl,by decide +kernel,rfl,by decide +kernel,by decide +kernel⟩
theorem nQ (h:Has K mg "check_behind" eV ["book", "side", "behind"]) (q_NoPlace:mg "NoPlace" = some (.ref a_NoPlace)) (x_NoPlace:PySem.W.excIn K a_NoPlace vBm "ValueError.__new__" = true) (C_side_of:cM P w K mg base "side_of" 2 ["book", "name"] (fu K a_NoPart)):cM P w K mg base "check_behind" 3 ["book", "side", "behind"] (qH K a_NoPart a_NoPlace):=by
 refine h.mk1 pG (fun vs H Q E hs=>?_) (fun f cdv A outer s H vs Q E hr hs=>?_)
 ·obtain ⟨v,L,R,ks,al,n,b,rfl,_⟩:=hs
  rfl
 obtain ⟨v,L,R,ks,al,n,b,rfl,hv,h1,h2,hbl,hmo,k1,k2,k3⟩:=hs
 refine ⟨_,(aF (dM (PW.pt (Ej (bh oY (pv 2) aA (bZ _)) (yM (bh oY (aW C_side_of hr (by decide) rfl bB (aj (pv 0) (aj (pv 2) au))) (pv 1) (bZ _)))))
   (aF (cO rfl c7 rfl q_NoPlace x_NoPlace (aj (eE (bC (d7 (pv 2)) (bC aA iz))) au)))
   bN)),?_⟩
 have hb1:(⟨b.toArray⟩:Str).length≤sizeLine:=by rw [lV]; exact bF (by omega)
 have hb2:(Str.empty++(⟨b.toArray⟩:Str)).length≤sizeLine:=by
  rw [strLen_append]
  have h1:=lV b
  have h2:=FZ
  exact bF (by omega)
 have hb3:((Str.empty++(⟨b.toArray⟩:Str))++Str.ofString " is of the other side").length≤sizeLine:=oH hbl (by decide +kernel)
 have e0:V.str (Str.ofString "")=mkT []:=by decide +kernel
 refine ⟨_,rfl,rfl,_,rfl,?_⟩
 refine fV (fun z=>?_) (fun z=>?_)
 ·have hb0:b≠[]:=fun e=>by rw [e] at z; exact absurd z (by decide +kernel)
  refine ⟨_,rfl,_,rfl,v,L,R,ks,al,b,rfl,hv,h1,h2,hbl,hmo,fun p hp H1 s1=>?_,fun z=>(k2 hb0 z).out⟩
  have hso:(bD (L++R) b).isSome=true:=by rw [hp]; rfl
  have hsi:((if (bD L b).isSome=true then (0:Int) else 1))=((aP L b:Nat):Int):=by unfold aP; split <;> rfl
  rw [hsi]
  refine ⟨_,rfl,rfl,_,rfl,?_⟩
  refine fV (fun z=>?_) (fun z=>?_)
  ·have hne:aP L b≠n:=fun e=>by rw [e] at z; simp at z
   refine ⟨_,rfl,.inl ⟨_,rfl,hb1,_,rfl,hb2,_,rfl,hb3,hb3,?_⟩⟩
   exact ⟨smn 1,fun e T he hT=>((k3 hb0 hso hne).up s1).made he hT⟩
  ·have heq:aP L b=n:=by
    by_cases e:aP L b=n
    ·exact e
    ·refine absurd ?_ z
     have:decide (V.int ((aP L b:Nat):Int)=V.int ((n:Nat):Int))=false:=decide_eq_false fun q=>e (by injection q with q; omega)
     rw [this]
     rfl
   exact k1 (.inr ⟨hso,heq⟩) H1 s1
 ·have hb0:b=[]:=by
   by_cases e:b=[]
   ·exact e
   ·refine absurd ?_ z
    have:decide (mkT b=mkT [])=false:=by rw [Jz]; exact decide_eq_false e
    show (!decide (mkT b=V.str (Str.ofString "")))=true
    rw [e0,this]
    rfl
  exact k1 (.inl hb0) H (Same.refl _)
theorem wG:aK ["book", "name"] ["book", "name"] (aC jK):=⟨rfl,rfl,rfl,by decide +kernel,rfl,by decide +kernel,by decide +kernel⟩
theorem uh (h:Has K mg "check_new" jK ["book", "name"]) (q_Twice:mg "Twice" = some (.ref a_Twice)) (x_Twice:PySem.W.excIn K a_Twice vBm "ValueError.__new__" = true) (C_has_part:Cal P w K mg base "has_part" 2 ["book", "name"] (rU K)):cM P w K mg base "check_new" 3 ["book", "name"] (Fb K a_Twice):=by
 refine h.mk1 wG (fun vs H Q E hs=>?_) (fun f cdv A outer s H vs Q E hr hs=>?_)
 ·obtain ⟨v,L,R,ks,al,x,rfl,_⟩:=hs
  rfl
 obtain ⟨v,L,R,ks,al,x,rfl,hv,h1,h2,hx,k1,k2⟩:=hs
 refine ⟨_,(aF (dM (n6 (aY C_has_part hr (by decide) rfl (aj (pv 0) (aj (pv 1) au))))
   (aF (cO rfl c7 rfl q_Twice x_Twice (aj (eE (bC aA (bC (d7 (pv 1)) iz))) au)))
   bN)),?_⟩
 refine ⟨_,rfl,_,rfl,v,L,R,ks,al,x,rfl,hv,h1,h2,fun H1 s1=>?_⟩
 refine ⟨_,rfl,?_⟩
 refine fV (fun z=>?_) (fun z=>?_)
 ·have hx1:(⟨x.toArray⟩:Str).length≤sizeLine:=by rw [lV]; exact bF (by omega)
  have hx2:((Str.empty++Str.ofString "there is a part ")++(⟨x.toArray⟩:Str)).length≤sizeLine:=Ju hx (by decide +kernel)
  refine ⟨_,rfl,by decide +kernel,_,rfl,.inl ⟨_,rfl,hx1,_,rfl,hx2,hx2,?_⟩⟩
  exact ⟨smn 1,fun e T he hT=>((k2 z).up s1).made he hT⟩
 ·exact k1 (by simpa using z) H1 s1
end
def sO (L:List Prt) (x:List Nat):Nat:=if (bD L x).isSome then 0 else 1
def cu (L:List Prt) (ks:List Lnk) (x:List Nat):Option Lnk:=ks.find? fun k=>decide (x∈bA (sO L x) k)
def lF (K:PySem.W.Frag) (C:Addr):Sp:=fun vs H Q E=>∃ (v:V) (L R:List Prt) (ks:List Lnk) (al:Nms) (x:List Nat),vs=[v,mkT x]∧cP K H v L R ks al∧L.length≤60∧R.length≤60∧x.length≤1000∧(∀ p∈L++R,p.2.2.length≤1000) ∧
 (∀ p,bD (L++R) x=some p→(∀ k,cu L ks x=some k→∀ (u:V) (H':Hp),Same H H'→Den H' u (bK k)→Q u H')∧(cu L ks x=none→∀ (H':Hp),Same H H'→Q .non H'))∧(bD (L++R) x=none→aZ C H E)
section
variable {P:Program} {w:World} {K:PySem.W.Frag} {mg:Str→Option Value} {base:Heap} {a_NoPart:Addr}
theorem qy:aK ["book", "name", "side", "link"] ["book", "name"] (aC pO):=⟨rfl,rfl,rfl,by decide +kernel,rfl,by decide +kernel,by decide +kernel⟩
theorem zM (h:Has K mg "link_of" pO ["book", "name"]) (C_side_of:cM P w K mg base "side_of" 2 ["book", "name"] (fu K a_NoPart)):cM P w K mg base "link_of" 3 ["book", "name"] (lF K a_NoPart):=by
 refine h.mk1 qy (fun vs H Q E hs=>?_) (fun f cdv A outer s H vs Q E hr hs=>?_)
 ·obtain ⟨v,L,R,ks,al,x,rfl,_⟩:=hs
  rfl
 obtain ⟨v,L,R,ks,al,x,rfl,hv,hlL,hlR,hlx,hmo,k1,k2⟩:=hs
 refine ⟨_,(ao (aH (i:=2) qy.nd rfl (Or.inl rfl) (aW C_side_of hr (by decide) rfl bB (aj (pv 0) (aj (pv 1) au))))
  (ao (fQ PassesOwn.leaving rfl (dR (aM aO (pv 0) aB (fun _ _=>rfl))) (aU (i:=3) qy.nd rfl (Or.inl rfl))
   (aF (dM (bh iD (pv 1) (aM aO (pv 3) (pv 2) (fun _ _=>rfl)) (by with_unfolding_all rfl))
   (aF (bx (pv 3)))
   bN)))
  (aF (bx jh)))),?_⟩
 refine ⟨_,rfl,_,rfl,v,L,R,ks,al,x,rfl,hv,hlL,hlR,hlx,hmo,fun p hp H' s'=>?_,fun z=>(k2 z).out⟩
 obtain ⟨kk1,kk2⟩:=k1 p hp
 obtain ⟨pb,pl,pr,pk,pa,ls,rs,ws,rfl,hpb,hpl,hdl,hpr,hdr,hpk,hdk,hpa⟩:=hv
 have at2:atI [V.ref pl,V.ref pr,V.ref pk,V.ref pa] 2=some (.ref pk):=aJ (xs:=[V.ref pl,V.ref pr,V.ref pk,V.ref pa]) (j:=2) rfl
 have esd:(if (bD L x).isSome=true then (0:Int) else 1)=(sO L x:Nat):=by
  unfold sO
  cases (bD L x).isSome <;> rfl
 rw [esd]
 have hsl:sO L x≤1:=by
  unfold sO
  cases (bD L x).isSome <;> decide
 have hln:cu L ks x=ks.find? fun k=>decide (x∈bA (sO L x) k):=rfl
 generalize sO L x=n at *
 have hwl:=hdk.len
 rw [List.length_map] at hwl
 refine ⟨_,rfl,pb,_,_,_,rfl,rfl,(stT s' hpb),at2,pk,rfl,⟨_,stT s' hpk⟩,?_⟩
 refine mK (K:=K) (a:=pk) (xs:=ws) (fun i σ H2=>∃ v3:Option V,σ=[some (.ref pb),some (mkT x),some (.int (n:Nat)),v3]∧Same H H2∧∀ k∈ks.take i,decide (x∈bA n k)=false) ⟨_,rfl,s',fun k hk=>by rw [List.take_zero] at hk; cases hk⟩ ?_ ?_ ?_
 ·rintro i σ H2 _ ⟨_,_,s2,_⟩
  exact stT s2 hpk
 ·rintro i y σ H2 hi ⟨v3,rfl,s2,hno⟩
  have hni:i < ks.length:=by
   have:=(List.getElem?_eq_some_iff.mp hi).1
   omega
  obtain ⟨dd,hdd,dy⟩:=hdk.at_ hi
  rw [List.getElem?_map,List.getElem?_eq_getElem hni] at hdd
  have edd:bK ks[i]=dd:=Option.some.inj hdd
  subst edd
  have htk:ks.take (i+1)=ks.take i++[ks[i]]:=by
   rw [List.take_add_one,List.getElem?_eq_getElem hni]
   rfl
  have hfirst:decide (x∈bA n ks[i])=true→cu L ks x=some ks[i]:=fun h=>hln.trans (j4 hni hno h)
  generalize ks[i]=k at dy htk hfirst
  have dy2:=dy.same s2
  obtain ⟨b,p0,p1,p3,p4,p5,us0,us1,rfl,hb,h0,hd0,h1,hd1,h3,h4,h5⟩:=lM dy2
  rw [vU hd0] at h0
  rw [vU hd1] at h1
  obtain ⟨pq,hat,hpq⟩:∃ pq,atI [V.ref p0,V.ref p1,V.int k.2.2.1,V.ref p3] (n:Nat)=some (.ref pq)∧H2 pq=some (.tup ((bA n k).map mkT)):=by
   match n,hsl with
   | 0,_=>exact ⟨p0,aR _ _,h0⟩
   | 1,_=>exact ⟨p1,aJ (xs:=[V.ref p0,V.ref p1,V.int k.2.2.1,V.ref p3]) (j:=1) rfl,h1⟩
  refine gN ⟨_,rfl,_,rfl,_,rfl,b,_,_,_,rfl,rfl,SqT.of hb,hat,pq,_,rfl,.inr (SqT.of hpq),rfl,dY _,_,rfl,?_⟩
  rw [show (if false=true then !inV (mkT x) ((bA n k).map mkT) else inV (mkT x) ((bA n k).map mkT))=inV (mkT x) ((bA n k).map mkT) from rfl,lB]
  refine fV (fun z=>?_) (fun z=>?_)
  ·exact ⟨_,rfl,kk1 k (hfirst z) _ _ s2 dy2⟩
  ·refine ⟨_,rfl,s2,fun k' hk'=>?_⟩
   rw [htk] at hk'
   rcases List.mem_append.mp hk' with h | h
   ·exact hno k' h
   ·rw [List.mem_singleton.mp h]; exact Bool.eq_false_iff.mpr z
 ·rintro σ H2 ⟨v3,rfl,s2,hno⟩
  have hn:cu L ks x=none:=hln.trans (List.find?_eq_none.mpr fun k hk=>by
   have:=hno k (by rw [hwl,List.take_length]; exact hk)
   rw [this]; decide)
  exact kk2 hn H2 s2
end
def Bt:Sp:=fun vs H Q _=>∃ c:Nat,vs=[.str ⟨#[c]⟩]∧Q (.bl (M01.isW c)) H
def uz:Sp:=fun vs H Q _=>∃ x:Str,vs=[.str x]∧x.length≤5000∧∀ (t:Addr) (H':Hp),Same H H'→H' t=some (.tup (((M01.wds x.cps.toList).map fun r=>(⟨r.toArray⟩:Str)).map V.str))→Q (.ref t) H'
section
open M01
variable {P:Program} {w:World} {K:PySem.W.Frag} {mg:Str→Option Value} {base:Heap}
theorem Le:aK ["sign"] ["sign"] (aC Ib):=⟨rfl,rfl,rfl,by decide +kernel,rfl,by decide +kernel,by decide +kernel⟩
theorem Js {c:Nat} {σ:L2.St} {H:Hp} {Q:VK} (h0:σ[0]?=some (some (.str ⟨#[c]⟩))) (q:Q (.bl (isW c)) H) :
  KY (oJ Dv Dv (tC (.str "a")) (xr 0) (tC (.str "z"))) (KY (oJ Dv Dv (tC (.str "A")) (xr 0) (tC (.str "Z"))) (oJ Dv Dv (tC (.str "0")) (xr 0) (tC (.str "9")))) σ H Q:=by
 unfold isW at q
 refine kI (a:=97) (b:=122) (by decide +kernel) (by decide +kernel) h0 ⟨_,rfl,?_⟩
 refine fV (fun h=>?_) (fun h=>?_)
 ·rw [h] at q
  exact q
 ·have h':decide (97≤c∧c≤122)=false:=by simpa using h
  rw [h',Bool.false_or] at q
  refine kI (a:=65) (b:=90) (by decide +kernel) (by decide +kernel) h0 ⟨_,rfl,?_⟩
  refine fV (fun g=>?_) (fun g=>?_)
  ·rw [g] at q
   exact q
  ·have g':decide (65≤c∧c≤90)=false:=by simpa using g
   rw [g',Bool.false_or] at q
   exact kI (a:=48) (b:=57) (by decide +kernel) (by decide +kernel) h0 q
theorem J7 {f:Addr} {fd:FuncData} (F:Fun K "is_word_sign" "is_word_sign" Ib f fd):m9 P w K mg base CX0 1 f fd ["sign"] Bt:=by
 refine F.ok Le (fun vs H Q E h=>?_) (fun cdv A outer s H vs Q E hr h=>?_)
 ·obtain ⟨c,rfl,_⟩:=h
  rfl
 obtain ⟨c,rfl,q⟩:=h
 refine ⟨_,aF (bx (J8 (pD oh oh aA (pv 0) aA) (J8 (pD oh oh aA (pv 0) aA) (DG (pD oh oh aA (pv 0) aA))))),?_⟩
 exact Js rfl q
theorem zE:aK ["text", "spaced"] ["text"] (aC nZ):=⟨rfl,rfl,rfl,by decide +kernel,rfl,by decide +kernel,by decide +kernel⟩
theorem BR {f fW:Addr} {fd fdW:FuncData} (F:Fun K "words_of" "words_of" nZ f fd) (GW:m9 P w K mg base CX0 1 fW fdW ["sign"] Bt) (bW:Binds K fdW ["sign"] []) (kW:PySem.W.keepIn K (.ref fW)=true) (mW:mg "is_word_sign" = some (.ref fW)) (mtuple:mg "tuple" = none) :
  m9 P w K mg base CX0 2 f fd ["text"] uz:=by
 refine F.ok zE (fun vs H Q E h=>?_) (fun cdv A outer s H vs Q E hr h=>?_)
 ·obtain ⟨x,rfl,_⟩:=h
  rfl
 obtain ⟨x,rfl,hx,k⟩:=h
 refine ⟨_,ao (aH (i:=1) zE.nd rfl (Or.inl rfl) (gD PySem.F.plainAttrs_str PySem.F.slot_str_join PySem.F.type_str_join Fi aA (aj
   (cN ["text", "spaced"] (aC nZ) ["sign"] [none] rfl rfl rfl (Im (pv 0)) rfl (by decide +kernel) (by decide +kernel) (by decide +kernel) (by decide +kernel)
    (fun cl C s H ex pn E=>aU (i:=0) (by decide +kernel:(["sign"]:List Str).Nodup) rfl (Or.inl rfl)) (fun cl C s H ex pn E=>cJ)
    (fun cl C s H ex pn E=>vP (n6 (zq GW hr rfl mW kW bW .nil Hu (aj (pv 0) au))) (pv 0) aA)) au)))
  (aF (bx (cD bL rfl mtuple boot_tuple (aj (HN PySem.F.plainAttrs_str PySem.F.slot_str_split PySem.F.type_str_split BZ (pv 1)) au)))),?_⟩
 have hlen:x.cps.toList.length=x.length:=by simp [Str.length]
 refine ⟨rfl,_,rfl,x,rfl,fun l hl=>?_⟩
 refine gK (J:=Its x) (l:=l) x.cps.size (fun i σ' H'=>∃ v:Option V,σ'=[v]∧H'=upd H l (.lst ((x.cps.toList.take i).map fun c=>V.str ⟨#[bl c]⟩))) ⟨none,rfl,rfl⟩ ?_ ?_
 ·rintro σ' H' ⟨v,rfl,rfl⟩
  have e:x.cps.toList.take x.cps.size=x.cps.toList:=by rw [← Array.length_toList]; exact List.take_length
  rw [e]
  have em:(x.cps.toList.map fun c=>V.str ⟨#[bl c]⟩)=((x.cps.toList.map bl).map fun c=>(⟨#[c]⟩:Str)).map V.str:=by
   rw [List.map_map,List.map_map]
   rfl
  rw [em]
  refine ⟨Nat.le_refl _,_,l,(x.cps.toList.map bl).map (fun c=>(⟨#[c]⟩:Str)),rfl,rfl,SqL.of ak,yg (by decide +kernel) _ (by rw [List.length_map,hlen]; omega),?_⟩
  have ej:∀ y:Str,y=⟨#[]⟩→Str.join y ((x.cps.toList.map bl).map fun c=>(⟨#[c]⟩:Str))=⟨(x.cps.toList.map bl).toArray⟩:=fun y hy=>by
   subst hy
   exact join_ones _
  rw [ej _ (by decide +kernel)]
  refine ⟨_,rfl,rfl,_,rfl,rfl,?_,fun l2 hl2=>?_⟩
  ·show (x.cps.toList.map bl).toArray.size≤100000
   rw [List.size_toArray,List.length_map,hlen]
   omega
  ·rw [Aw]
   refine ⟨l2,_,rfl,.inl ⟨SqL.of ak,fun t ht=>?_⟩⟩
   exact k t _ ((aq hl _).trans ((aq hl2 _).trans (aq ht _))) ak
 ·rintro i σ' H' hi ⟨v,rfl,rfl⟩
  refine ⟨hi,?_⟩
  rintro y H'' ⟨rfl,c,hc,rfl⟩
  have ht:x.cps.toList.take (i+1)=x.cps.toList.take i++[c]:=by
   rw [List.take_add_one]
   have hc':x.cps.toList[i]?=some c:=by simpa using hc
   rw [hc']
   rfl
  have fin:∃ ys,(upd H l (.lst ((x.cps.toList.take i).map fun c=>V.str ⟨#[bl c]⟩))) l=some (.lst ys)∧ys.length < sizeLine ∧
    ∃ v1:Option V,([v].set 0 (some (V.str ⟨#[c]⟩)):L2.St)=[v1]∧upd (upd H l (.lst ((x.cps.toList.take i).map fun c=>V.str ⟨#[bl c]⟩))) l (.lst (ys++[V.str ⟨#[bl c]⟩]))=upd H l (.lst ((x.cps.toList.take (i+1)).map fun c=>V.str ⟨#[bl c]⟩)):=by
   refine ⟨_,ak,?_,_,rfl,?_⟩
   ·rw [List.length_map,List.length_take]
    have:x.cps.size=x.length:=rfl
    exact Nat.lt_of_le_of_lt (Nat.min_le_left _ _) (Nat.lt_of_lt_of_le (show _ < 1000000 by omega) bR)
   ·rw [gM,ht,List.map_append]
    rfl
  refine gN (vf (rR ?_))
  refine ⟨_,rfl,c,rfl,_,rfl,?_⟩
  refine fV (fun h=>?_) (fun h=>?_)
  ·refine ⟨_,rfl,?_⟩
   have e:bl c=c:=by unfold bl; rw [if_pos h]
   rw [e] at fin
   exact fin
  ·have e:bl c=32:=by unfold bl; rw [if_neg h]
   rw [e] at fin
   exact fin
end
section
variable {P:Program} {w:World} {K:PySem.W.Frag} {mg:Str→Option Value} {base:Heap}
theorem K1 (h:Has K mg "is_word_sign" Ib ["sign"]):Cal P w K mg base "is_word_sign" 1 ["sign"] Bt:=h.cal fun f fd F _ _=>J7 F
theorem G8 (h:Has K mg "words_of" nZ ["text"]) (C_isw:Cal P w K mg base "is_word_sign" 1 ["sign"] Bt) (m_tuple:mg "tuple" = none):Cal P w K mg base "words_of" 2 ["text"] uz:=by
 obtain ⟨fT,fdT,GT,bT,kT,mT⟩:=C_isw.ex
 exact h.cal fun f fd F _ _=>BR F GT bT kT mT m_tuple
end
def sdP (n:Nat) (L R:List Prt):List Prt:=if n=0 then L else R
def eG (L R:List Prt) (n:Nat) (b:List Nat):Option Nat:=if b=[] then none else if (bD (L++R) b).isSome=true then (if aP L b=n then none else some 1) else some 0
def wX (L R:List Prt) (n:Nat) (b x:List Nat):Option Nat:=(eG L R n b).or (if (bD (L++R) x).isSome=true then some 2 else none)
def cQ (n:Nat) (L R:List Prt) (M:List Prt):List Prt × List Prt:=if n=0 then (M,R) else (L,M)
theorem vQ {L R:List Prt} {n:Nat} {b:List Nat} (h:b=[]∨(bD (L++R) b).isSome=true∧aP L b=n):eG L R n b=none:=by
 unfold eG
 rcases h with z | ⟨z1,z2⟩
 ·rw [if_pos z]
 ·by_cases e:b=[]
  ·rw [if_pos e]
  ·rw [if_neg e,if_pos z1,if_pos z2]
theorem Ak {L R:List Prt} {n:Nat} {b:List Nat} (h0:b≠[]) (h:bD (L++R) b=none):eG L R n b=some 0:=by
 unfold eG
 rw [if_neg h0,h,if_neg (by simp)]
theorem xT {L R:List Prt} {n:Nat} {b:List Nat} (h0:b≠[]) (h:(bD (L++R) b).isSome=true) (hn:aP L b≠n):eG L R n b=some 1:=by
 unfold eG
 rw [if_neg h0,if_pos h,if_neg hn]
theorem BL {L R:List Prt} {b:List Nat} (h:(bD (L++R) b).isSome=true):b∈(sdP (aP L b) L R).map (·.1):=by
 rw [fU,decide_eq_true_eq,List.map_append,List.mem_append] at h
 unfold sdP aP
 rw [fU]
 by_cases e:b∈L.map (·.1)
 ·rw [if_pos (decide_eq_true e),if_pos rfl]
  exact e
 ·rw [if_neg (by simpa using e)]
  exact h.resolve_left e
theorem qe {H:Hp} {L R:List Prt} {ls rs:List V} {pl pr pk pa:Addr} {n:Nat} (hn:n≤1) (h1:H pl=some (.tup ls)) (d1:cg H ls (L.map bG)) (h2:H pr=some (.tup rs)) (d2:cg H rs (R.map bG)) :
  ∃ (p:Addr) (us:List V),atI [V.ref pl,V.ref pr,V.ref pk,V.ref pa] (n:Nat)=some (.ref p)∧H p=some (.tup us)∧cg H us ((sdP n L R).map bG):=by
 match n,hn with
 | 0,_=>exact ⟨pl,ls,aR _ _,h1,d1⟩
 | 1,_=>exact ⟨pr,rs,aJ (xs:=[V.ref pl,V.ref pr,V.ref pk,V.ref pa]) (j:=1) rfl,h2,d2⟩
theorem Bo {H:Hp} {q:Addr} {L R M:List Prt} {ks:List Lnk} {al:Nms} {ls rs us ws:List V} {pl pr pk pa p:Addr} {n:Nat} (hn:n≤1) (hq:H q=some (.tup ([V.ref pl,V.ref pr,V.ref pk,V.ref pa].set n (.ref p)))) (hp:H p=some (.tup ws)) (dp:cg H ws (M.map bG))
  (h1:H pl=some (.tup ls)) (d1:cg H ls (L.map bG)) (h2:H pr=some (.tup rs)) (d2:cg H rs (R.map bG)) (h3:H pk=some (.tup us)) (d3:cg H us (ks.map bK)) (h4:H pa=some (.tup (al.map mkT))) :
  Den H (.ref q) (dH (cQ n L R M).1 (cQ n L R M).2 ks al):=by
 match n,hn with
 | 0,_=>exact ⟨q,_,rfl,hq,⟨p,ws,rfl,hp,dp⟩,⟨pr,rs,rfl,h2,d2⟩,⟨pk,us,rfl,h3,d3⟩,⟨pa,_,rfl,h4,iG H al⟩,trivial⟩
 | 1,_=>exact ⟨q,_,rfl,hq,⟨pl,ls,rfl,h1,d1⟩,⟨p,ws,rfl,hp,dp⟩,⟨pk,us,rfl,h3,d3⟩,⟨pa,_,rfl,h4,iG H al⟩,trivial⟩
def Cp:Str:=Str.ofString "put"
def SmB (L R:List Prt):Prop:=L.length≤60∧R.length≤60∧∀ p∈L++R,p.2.2.length≤1000
def mD (C:Nat→Addr):Sp:=fun vs H Q E=>∃ (v:V) (pd:Addr) (t:Int) (n:Nat) (b x tx:List Nat) (L R:List Prt) (ks:List Lnk) (al:Nms),vs=[v,.ref pd]∧Den H v (dH L R ks al)∧H pd=some (.tup [.str Cp,.int t,.int (n:Nat),mkT b,mkT x,mkT tx])∧n≤1∧b.length≤1000∧x.length≤1000∧SmB L R ∧
 (wX L R n b x=none→∀ (u:V) (H':Hp),Same H H'→Den H' u (dH (cQ n L R (wj (sdP n L R) b (x,tx,[t]))).1 (cQ n L R (wj (sdP n L R) b (x,tx,[t]))).2 ks al)→Q u H')∧(∀ e,wX L R n b x=some e→aZ (C e) H E)
def c5 (a b c d e:Addr):Nat→Addr
 | 0=>a
 | 1=>b
 | 2=>c
 | 3=>d
 | _=>e
def iw:List (Str × Str):=[(Str.ofString "put",Str.ofString "put_done"),(Str.ofString "take",Str.ofString "take_done"),(Str.ofString "part",Str.ofString "part_done"),(Str.ofString "join",Str.ofString "join_done"),(Str.ofString "move",Str.ofString "move_done"),(Str.ofString "change",Str.ofString "change_done"),(Str.ofString "word",Str.ofString "word_done"),(Str.ofString "link",Str.ofString "link_done"),(Str.ofString "loose",Str.ofString "loose_done"),(Str.ofString "step",Str.ofString "step_done"),(Str.ofString "alone",Str.ofString "alone_done"),(Str.ofString "lack",Str.ofString "lack_done")]
section
variable {P:Program} {w:World} {K:PySem.W.Frag} {mg:Str→Option Value} {base:Heap} {a_NoPart a_NoPlace a_Twice a_Linked a_Apart:Addr}
theorem iM:aK ["book", "deed", "side", "behind", "name", "part"] ["book", "deed"] (aC lN):=⟨rfl,rfl,rfl,by decide +kernel,rfl,by decide +kernel,by decide +kernel⟩
theorem vW (h:Has K mg "put_done" lN ["book", "deed"]) (C_check_behind:cM P w K mg base "check_behind" 3 ["book", "side", "behind"] (qH K a_NoPart a_NoPlace)) (C_check_new:cM P w K mg base "check_new" 3 ["book", "name"] (Fb K a_Twice)) (C_replaced:Cal P w K mg base "replaced" 1 ["row", "place", "thing"] nU) (C_parts_with:Cal P w K mg base "parts_with" 1 ["parts", "behind", "part"] Er):cM P w K mg base "put_done" 4 ["book", "deed"] (mD (c5 a_NoPart a_NoPlace a_Twice a_Linked a_Apart)):=by
 refine h.mk1 iM (fun vs H Q E hs=>?_) (fun f cdv A outer s H vs Q E hr hs=>?_)
 ·obtain ⟨v,pd,t,n,b,x,tx,L,R,ks,al,rfl,_⟩:=hs
  rfl
 obtain ⟨v,pd,t,n,b,x,tx,L,R,ks,al,rfl,hv,hd,hn,hb,hx,⟨h1,h2,hmo⟩,k1,k2⟩:=hs
 refine ⟨_,(ao (aH (i:=2) iM.nd rfl (Or.inl rfl) (aM aO (pv 1) aB (fun _ _=>rfl)))
  (ao (aH (i:=3) iM.nd rfl (Or.inl rfl) (aM aO (pv 1) aB (fun _ _=>rfl)))
  (ao (aH (i:=4) iM.nd rfl (Or.inl rfl) (aM aO (pv 1) aB (fun _ _=>rfl)))
  (ao (cL (aW C_check_behind hr (by decide) rfl bB (aj (pv 0) (aj (pv 2) (aj (pv 3) au)))))
  (ao (cL (aW C_check_new hr (by decide) rfl bB (aj (pv 0) (aj (pv 4) au))))
  (ao (aH (i:=5) iM.nd rfl (Or.inl rfl) (cH (aj (pv 4) (aj (aM aO (pv 1) aB (fun _ _=>rfl)) (aj (cH (aj (aM aO (pv 1) aB (fun _ _=>rfl)) au)) au)))))
  (aF (bx (aY C_replaced hr (by decide) rfl (aj (pv 0) (aj (pv 2) (aj (aY C_parts_with hr (by decide) rfl (aj (aM aO (pv 0) (pv 2) (fun _ _=>rfl)) (aj (pv 3) (aj (pv 5) au)))) au)))))))))))),?_⟩
 have at_:∀ {j:Nat} {y:V},[V.str Cp,.int t,.int (n:Nat),mkT b,mkT x,mkT tx][j]?=some y→atI [V.str Cp,.int t,.int (n:Nat),mkT b,mkT x,mkT tx] (j:Nat)=some y:=fun h=>aJ h
 refine ⟨_,rfl,pd,_,_,_,rfl,rfl,SqT.of hd,at_ (j:=2) rfl,?_⟩
 refine ⟨_,rfl,pd,_,_,_,rfl,rfl,SqT.of hd,at_ (j:=3) rfl,?_⟩
 refine ⟨_,rfl,pd,_,_,_,rfl,rfl,SqT.of hd,at_ (j:=4) rfl,?_⟩
 refine ⟨_,rfl,_,rfl,_,rfl,v,L,R,ks,al,n,b,rfl,cP.of hv,h1,h2,hb,hmo,fun hok H1 s1=>?_,fun e1 e2=>((k2 0 (by unfold wX; rw [Ak e1 e2]; rfl))).out,fun e1 e2 e3=>((k2 1 (by unfold wX; rw [xT e1 e2 e3]; rfl))).out⟩
 have hpn:eG L R n b=none:=vQ hok
 have hv1:=hv.same s1
 refine ⟨_,rfl,_,rfl,v,L,R,ks,al,x,rfl,cP.of hv1,h1,h2,hx,fun hnew H2 s2=>?_,fun z=>(((k2 2 (by unfold wX; rw [hpn,if_pos z]; rfl))).up s1).out⟩
 have hE:wX L R n b x=none:=by
  unfold wX
  rw [hpn,hnew]
  rfl
 have s12:=s1.trans s2
 have hd2:=s12 _ _ hd
 refine ⟨_,rfl,_,rfl,pd,_,_,_,rfl,rfl,SqT.of hd2,at_ (j:=5) rfl,_,rfl,pd,_,_,_,rfl,rfl,SqT.of hd2,at_ (j:=1) rfl,smn 1,fun p1 hp1=>⟨smn 3,fun p2 hp2=>?_⟩⟩
 have s3:=(aq hp1 (.tup [.int t])).trans (aq hp2 (.tup [mkT x,mkT tx,.ref p1]))
 have e3:(upd (upd H2 p1 (.tup [.int t])) p2 (.tup [mkT x,mkT tx,.ref p1])) p2=some (.tup [mkT x,mkT tx,.ref p1]):=ak
 have e31:(upd (upd H2 p1 (.tup [.int t])) p2 (.tup [mkT x,mkT tx,.ref p1])) p1=some (.tup [.int t]):=aq hp2 _ _ _ ak
 generalize upd (upd H2 p1 (.tup [.int t])) p2 (.tup [mkT x,mkT tx,.ref p1])=H3 at s3 e3 e31 ⊢
 have s03:=s12.trans s3
 obtain ⟨p,pl,pr,pk,pa,ls,rs,us,rfl,a1,a2,a3,a4,a5,a6,a7,a8⟩:=iV (hv.same s03)
 obtain ⟨pp,us',hat,hpp,dpp⟩:=qe (pk:=pk) (pa:=pa) hn a2 a3 a4 a5
 have hls:(sdP n L R).length≤900:=by unfold sdP; split <;> omega
 have hin:b=[]∨b∈(sdP n L R).map (·.1):=hok.imp id fun ⟨z1,z2⟩=>by rw [← z2]; exact BL z1
 refine ⟨_,rfl,_,rfl,_,rfl,_,rfl,p,_,_,_,rfl,rfl,SqT.of a1,hat,_,rfl,_,rfl,pp,us',sdP n L R,b,.ref p2,(x,tx,[t]),rfl,hpp,dpp,hls,⟨p2,_,rfl,e3,rfl,rfl,⟨p1,_,rfl,e31,rfl,trivial⟩,trivial⟩,hin,fun r ws H4 s4 e4 d4=>?_⟩
 refine ⟨p,_,n,.ref r,rfl,s4 _ _ a1,by show n < 4; omega,by show 4≤900; omega,fun q H5 s5 e5=>?_⟩
 have s45:=s4.trans s5
 exact k1 hE (.ref q) H5 (s03.trans s45) (Bo hn e5 (s5 _ _ e4) (d4.same s5) (s45 _ _ a2) (a3.same s45) (s45 _ _ a4) (a5.same s45) (s45 _ _ a6) (a7.same s45) (s45 _ _ a8))
end
def isP (L R:List Prt) (x:List Nat):Bool:=(bD (L++R) x).isSome
def jc (L:List Prt) (ks:List Lnk) (al:Nms) (x:List Nat):Bool:=(cu L ks x).isNone && !decide (x∈al)
theorem dW {L R:List Prt} {x:List Nat} {p:Prt} (h:bD (L++R) x=some p):isP L R x=true:=by unfold isP; rw [h]; rfl
theorem gQ {L R:List Prt} {x:List Nat} (h:bD (L++R) x=none):isP L R x=false:=by unfold isP; rw [h]; rfl
def yD:Sp:=fun _ _ _ _=>False
def tE (K:PySem.W.Frag) (C:Addr):Sp:=fun vs H Q E=>∃ (v:V) (L R:List Prt) (ks:List Lnk) (al:Nms) (x:List Nat),vs=[v,mkT x]∧cP K H v L R ks al∧SmB L R∧x.length≤1000 ∧
 (isP L R x=true→∀ H',Same H H'→Q (.bl (jc L ks al x)) H')∧(isP L R x=false→aZ C H E)
def tL (K:PySem.W.Frag) (C C2:Addr):Sp:=fun vs H Q E=>∃ (v:V) (L R:List Prt) (ks:List Lnk) (al:Nms) (x:List Nat),vs=[v,mkT x]∧cP K H v L R ks al∧SmB L R∧x.length≤1000 ∧
 (isP L R x=true→cu L ks x=none)∧(isP L R x=true→cu L ks x=none→aZ C2 H E)∧(isP L R x=false→aZ C H E)
theorem yQ {x:List Nat} (hx:x.length≤1000):(Str.empty++(⟨x.toArray⟩:Str)).length≤sizeLine:=by
 rw [strLen_append]
 have h1:=lV x
 have h2:=FZ
 exact bF (by omega)
noncomputable def neD:Option Lnk→Option Lnk→Bool
 | none,none=>false
 | some a,some b=>!eqD (bK a) (bK b)
 | _,_=>true
noncomputable def mU (L R:List Prt) (ks:List Lnk) (al:Nms) (x y:List Nat):Option Nat:=if isP L R x && isP L R y then (if (aP L x != aP L y) || decide (x=y) then some 1 else if neD (cu L ks x) (cu L ks y) || (decide (x∈al) != decide (y∈al)) then some 4 else none) else some 0
def rD (L R:List Prt) (ks:List Lnk) (al xs ys:Nms):Option Nat:=if (xs++ys).all (isP L R) then (if xs.any (aP L · != 0) || ys.any (aP L · != 1) then some 1 else if (xs++ys).all (jc L ks al) then none else some 3) else some 0
def vG (K:PySem.W.Frag) (C:Nat→Addr):Sp:=fun vs H Q E=>∃ (v:V) (L R:List Prt) (ks:List Lnk) (al:Nms) (x y:List Nat),vs=[v,mkT x,mkT y]∧cP K H v L R ks al∧SmB L R∧x.length≤400∧y.length≤400∧(∀ k∈ks,fH 50 (bK k))∧∃ e,mU L R ks al x y=some e∧aZ (C e) H E
def ou (K:PySem.W.Frag) (C:Nat→Addr):Sp:=fun vs H Q E=>∃ (v:V) (p q:Addr) (L R:List Prt) (ks:List Lnk) (al xs ys:Nms),vs=[v,.ref p,.ref q]∧H p=some (.tup (xs.map mkT))∧H q=some (.tup (ys.map mkT))∧cP K H v L R ks al∧SmB L R∧(∀ x∈xs++ys,x.length≤400)∧xs.length≤100∧ys.length≤100∧∃ e,rD L R ks al xs ys=some e∧aZ (C e) H E
def LkV (H:Hp) (u:V):Option Lnk→Prop
 | none=>u=.non
 | some k=>Den H u (bK k)
theorem LkV.same {H H':Hp} {u:V} {o:Option Lnk} (h:LkV H u o) (s:Same H H'):LkV H' u o:=by
 cases o with
 | none=>exact h
 | some k=>exact Den.same s h
theorem zf {L:List Prt} {ks:List Lnk} {x:List Nat} {H:Hp} {Q:VK} (h:∀ (u:V) (H':Hp),Same H H'→LkV H' u (cu L ks x)→Q u H'):(∀ k,cu L ks x=some k→∀ (u:V) (H':Hp),Same H H'→Den H' u (bK k)→Q u H')∧(cu L ks x=none→∀ (H':Hp),Same H H'→Q .non H') :=
 ⟨fun k hk u H' s d=>h u H' s (by rw [hk]; exact d),fun hn H' s=>h .non H' s (by rw [hn]; rfl)⟩
theorem rM {L:List Prt} {ks:List Lnk} {x:List Nat} {k:Lnk} (h:cu L ks x=some k):k∈ks:=List.mem_of_find?_eq_some h
theorem JL {x y:V} {H:Hp} {Q:VK} {a b:Option Lnk} (hx:LkV H x a) (hy:LkV H y b) (sa:∀ k,a=some k→fH 50 (bK k)) (sb:∀ k,b=some k→fH 50 (bK k)) (q:Q (.bl (neD a b)) H):Lx x y H Q:=by
 cases a with
 | none=>cases b with
  | none=>exact .inl ⟨hx,hy,q⟩
  | some k=>exact .inr (.inl ⟨hx,⟨_,hy⟩,q⟩)
 | some j=>cases b with
  | none=>exact .inr (.inr (.inl ⟨hy,⟨_,hx⟩,q⟩))
  | some k=>exact .inr (.inr (.inr ⟨_,_,49,hx,hy,sa j rfl,sb k rfl,by decide,qd j k,q⟩))
section
variable {P:Program} {w:World} {K:PySem.W.Frag} {mg:Str→Option Value} {base:Heap} {a_NoPart a_NoPlace a_Twice a_Linked a_Apart:Addr}
theorem wI:aK ["book", "old", "new", "links"] ["book", "old", "new"] (aC jT):=⟨rfl,rfl,rfl,by decide +kernel,rfl,by decide +kernel,by decide +kernel⟩
theorem xg (h:Has K mg "relinked" jT ["book", "old", "new"])  : cM P w K mg base "relinked" 1 ["book", "old", "new"] yD:=by
 refine h.mk1 wI (fun vs H Q E hs=>?_) (fun f cdv A outer s H vs Q E hr hs=>?_)
 ·exact hs.elim
 exact hs.elim
theorem tQ:aK ["book", "name"] ["book", "name"] (aC iQ):=⟨rfl,rfl,rfl,by decide +kernel,rfl,by decide +kernel,by decide +kernel⟩
theorem qM (h:Has K mg "is_lacking" iQ ["book", "name"]) (C_link_of:cM P w K mg base "link_of" 3 ["book", "name"] (lF K a_NoPart)):cM P w K mg base "is_lacking" 4 ["book", "name"] (tE K a_NoPart):=by
 refine h.mk1 tQ (fun vs H Q E hs=>?_) (fun f cdv A outer s H vs Q E hr hs=>?_)
 ·obtain ⟨v,L,R,ks,al,x,rfl,_⟩:=hs
  rfl
 obtain ⟨v,L,R,ks,al,x,rfl,hv,⟨h1,h2,hmo⟩,hx,k1,k2⟩:=hs
 refine ⟨_,(aF (bx (Jy (fJ Ao (aW C_link_of hr (by decide) rfl bB (aj (pv 0) (aj (pv 1) au))) jh (bZ _)) (DG (fJ ig (pv 1) (aM aO (pv 0) aB (fun _ _=>rfl)) (by with_unfolding_all rfl)))))),?_⟩
 refine ⟨_,rfl,_,rfl,v,L,R,ks,al,x,rfl,hv,h1,h2,hx,hmo,fun p hp=>⟨fun k hk u H1 s1 d1=>?_,fun hn H1 s1=>?_⟩,fun z=>(k2 (gQ z)).out⟩
 ·have e:jc L ks al x=false:=by unfold jc; rw [hk]; rfl
  have k1:=k1 (dW hp)
  rw [e] at k1
  obtain ⟨q,us,rfl,_⟩:=aQ d1
  refine ⟨rfl,_,rfl,?_⟩
  refine fV (fun z=>?_) (fun _=>k1 H1 s1)
  have:=of_decide_eq_true z
  cases this
 ·have e:jc L ks al x=!decide (x∈al):=by unfold jc; rw [hn]; rfl
  have k1:=k1 (dW hp)
  rw [e] at k1
  obtain ⟨pb,pl,pr,pk,pa,ls,rs,ws,rfl,hpb,hpl,hdl,hpr,hdr,hpk,hdk,hpa⟩:=hv
  refine ⟨rfl,_,rfl,rR ?_⟩
  refine ⟨_,rfl,_,rfl,pb,_,_,_,rfl,rfl,stT s1 hpb,aJ (xs:=[V.ref pl,V.ref pr,V.ref pk,V.ref pa]) (j:=3) rfl,pa,_,rfl,.inr (stT s1 hpa),rfl,dY _,?_⟩
  rw [show (if true=true then !inV (mkT x) (al.map mkT) else inV (mkT x) (al.map mkT))=!inV (mkT x) (al.map mkT) from rfl,lB]
  exact k1 H1 s1
theorem lA:aK ["book", "name", "link"] ["book", "name"] (aC gw):=⟨rfl,rfl,rfl,by decide +kernel,rfl,by decide +kernel,by decide +kernel⟩
theorem pU (h:Has K mg "needed_link" gw ["book", "name"]) (q_Apart:mg "Apart" = some (.ref a_Apart)) (x_Apart:PySem.W.excIn K a_Apart vBm "ValueError.__new__" = true) (C_link_of:cM P w K mg base "link_of" 3 ["book", "name"] (lF K a_NoPart)):cM P w K mg base "needed_link" 4 ["book", "name"] (tL K a_NoPart a_Apart):=by
 refine h.mk1 lA (fun vs H Q E hs=>?_) (fun f cdv A outer s H vs Q E hr hs=>?_)
 ·obtain ⟨v,L,R,ks,al,x,rfl,_⟩:=hs
  rfl
 obtain ⟨v,L,R,ks,al,x,rfl,hv,⟨h1,h2,hmo⟩,hx,k0,k1,k2⟩:=hs
 refine ⟨_,(ao (aH (i:=2) lA.nd rfl (Or.inl rfl) (aW C_link_of hr (by decide) rfl bB (aj (pv 0) (aj (pv 1) au))))
  (ao (dM (bh Ao (pv 2) jh (bZ _))
   (aF (cO rfl c7 rfl q_Apart x_Apart (aj (eE (bC (d7 (pv 1)) (bC aA iz))) au)))
   bN)
  (aF (bx (pv 2))))),?_⟩
 have hb1:(⟨x.toArray⟩:Str).length≤sizeLine:=by rw [lV]; exact bF (by omega)
 have hb2:=yQ hx
 have hb3:((Str.empty++(⟨x.toArray⟩:Str))++Str.ofString " is in no link").length≤sizeLine:=oH hx (by decide +kernel)
 refine ⟨_,rfl,_,rfl,v,L,R,ks,al,x,rfl,hv,h1,h2,hx,hmo,fun p hp=>⟨fun k hk u H1 s1 d1=>?_,fun hn H1 s1=>?_⟩,fun z=>(k2 (gQ z)).out⟩
 ·rw [k0 (dW hp)] at hk
  cases hk
 ·refine ⟨_,rfl,rfl,_,rfl,rR ⟨_,rfl,.inl ⟨_,rfl,hb1,_,rfl,hb2,_,rfl,hb3,hb3,?_⟩⟩⟩
  exact ⟨smn 1,fun e T he hT=>((k1 (dW hp) hn).up s1).made he hT⟩
theorem jE:aK ["book", "name", "other", "sides"] ["book", "name", "other"] (aC fB):=⟨rfl,rfl,rfl,by decide +kernel,rfl,by decide +kernel,by decide +kernel⟩
theorem nH (h:Has K mg "check_joined" fB ["book", "name", "other"]) (q_NoPlace:mg "NoPlace" = some (.ref a_NoPlace)) (x_NoPlace:PySem.W.excIn K a_NoPlace vBm "ValueError.__new__" = true) (q_Apart:mg "Apart" = some (.ref a_Apart)) (x_Apart:PySem.W.excIn K a_Apart vBm "ValueError.__new__" = true) (C_side_of:cM P w K mg base "side_of" 2 ["book", "name"] (fu K a_NoPart)) (C_link_of:cM P w K mg base "link_of" 3 ["book", "name"] (lF K a_NoPart)):cM P w K mg base "check_joined" 4 ["book", "name", "other"] (vG K (c5 a_NoPart a_NoPlace a_Twice a_Linked a_Apart)):=by
 refine h.mk1 jE (fun vs H Q E hs=>?_) (fun f cdv A outer s H vs Q E hr hs=>?_)
 ·obtain ⟨v,L,R,ks,al,x,y,rfl,_⟩:=hs
  rfl
 obtain ⟨v,L,R,ks,al,x,y,rfl,hv,⟨h1,h2,hmo⟩,hx,hy,hsh,e,he,k⟩:=hs
 refine ⟨_,(ao (aH (i:=3) jE.nd rfl (Or.inl rfl) (cH (aj (aW C_side_of hr (by decide) rfl bB (aj (pv 0) (aj (pv 1) au))) (aj (aW C_side_of hr (by decide) rfl bB (aj (pv 0) (aj (pv 2) au))) au))))
  (ao (dM (PW.pt (Fp (bh oY (aM aO (pv 3) aB (fun _ _=>rfl)) (aM aO (pv 3) aB (fun _ _=>rfl)) (bZ _)) (z6 (bh nM (pv 1) (pv 2) (bZ _)))))
   (aF (cO rfl c7 rfl q_NoPlace x_NoPlace (aj (eE (bC (d7 (pv 1)) (bC aA (bC (d7 (pv 2)) (bC aA iz))))) au)))
   bN)
  (aF (dM (PW.pt (Fp (bh (Ij hr.units) (aW C_link_of hr (by decide) rfl bB (aj (pv 0) (aj (pv 1) au))) (aW C_link_of hr (by decide) rfl bB (aj (pv 0) (aj (pv 2) au))) (bZ _)) (z6 (bh oY (fJ iD (pv 1) (aM aO (pv 0) aB (fun _ _=>rfl)) (by with_unfolding_all rfl)) (fJ iD (pv 2) (aM aO (pv 0) aB (fun _ _=>rfl)) (by with_unfolding_all rfl)) (bZ _)))))
   (aF (cO rfl c7 rfl q_Apart x_Apart (aj (eE (bC (d7 (pv 1)) (bC aA (bC (d7 (pv 2)) (bC aA iz))))) au)))
   bN)))),?_⟩
 have thr:∀ n,mU L R ks al x y=some n→aZ (c5 a_NoPart a_NoPlace a_Twice a_Linked a_Apart n) H E:=fun n hn=>by
  rw [he] at hn
  cases hn
  exact k
 have hx1:(⟨x.toArray⟩:Str).length≤sizeLine:=by rw [lV]; exact bF (by omega)
 have hy1:(⟨y.toArray⟩:Str).length≤sizeLine:=by rw [lV]; exact bF (by omega)
 have hx2:=yQ (x:=x) (by omega)
 have hx3:∀ c:String,(Str.ofString c).length≤100→((Str.empty++(⟨x.toArray⟩:Str))++Str.ofString c).length≤sizeLine:=fun c hc=>oH (by omega) hc
 refine ⟨_,rfl,_,rfl,v,L,R,ks,al,x,rfl,hv,h1,h2,by omega,hmo,fun p hp H1 s1=>?_,fun z=>(thr 0 (by unfold mU; rw [gQ z]; rfl)).out⟩
 refine ⟨_,rfl,_,rfl,v,L,R,ks,al,y,rfl,hv.same s1,h1,h2,by omega,hmo,fun p2 hp2 H2 s2=>?_,fun z=>((thr 0 (by unfold mU; rw [gQ z,Bool.and_false]; rfl)).up s1).out⟩
 have hJ:mU L R ks al x y=(if (aP L x != aP L y) || decide (x=y) then some 1 else if neD (cu L ks x) (cu L ks y) || (decide (x∈al) != decide (y∈al)) then some 4 else none):=by
  unfold mU
  rw [dW hp,dW hp2]
  rfl
 have hsi:∀ z:List Nat,((if (bD L z).isSome=true then (0:Int) else 1))=((aP L z:Nat):Int):=fun z=>by unfold aP; cases (bD L z).isSome <;> rfl
 rw [hsi,hsi]
 refine ⟨smn 2,fun pt hpt=>?_⟩
 have s3:=aq hpt (.tup [.int ((aP L x:Nat):Int),.int ((aP L y:Nat):Int)])
 have e3:(upd H2 pt (.tup [.int ((aP L x:Nat):Int),.int ((aP L y:Nat):Int)])) pt=some (.tup [.int ((aP L x:Nat):Int),.int ((aP L y:Nat):Int)]):=ak
 generalize upd H2 pt (.tup [.int ((aP L x:Nat):Int),.int ((aP L y:Nat):Int)])=H3 at s3 e3 ⊢
 have s03:=(s1.trans s2).trans s3
 have f2:(Str.empty++(⟨x.toArray⟩:Str)).length≤400:=by rw [strLen_append]; have:=lV x; have:=FZ; omega
 have f3:((Str.empty++(⟨x.toArray⟩:Str))++Str.ofString " and ").length≤405:=by rw [strLen_append]; have:(Str.ofString " and ").length=5:=(by decide +kernel); omega
 have f4:(((Str.empty++(⟨x.toArray⟩:Str))++Str.ofString " and ")++(⟨y.toArray⟩:Str)).length≤805:=by rw [strLen_append]; have:=lV y; omega
 have f5:∀ c:String,(Str.ofString c).length≤100→((((Str.empty++(⟨x.toArray⟩:Str))++Str.ofString " and ")++(⟨y.toArray⟩:Str))++Str.ofString c).length≤sizeLine:=fun c hc=>by rw [strLen_append]; exact bF (by omega)
 have rs:∀ (c:String) (n:Nat) (H':Hp),(Str.ofString c).length≤100→Same H H'→mU L R ks al x y=some n→zF (c5 a_NoPart a_NoPlace a_Twice a_Linked a_Apart n) E (uy (fun σ H Q=>tJ1 (J4 (xr 1)) (tJ1 (tC (V.str (Str.ofString " and "))) (tJ1 (J4 (xr 2)) (tJ1 (tC (V.str (Str.ofString c))) tJ0))) σ H Str.empty Q) GP) { nx:=fun _ H'=>Q .non H',rt:=Q } [some v,some (mkT x),some (mkT y),some (.ref pt)] H':=fun c n H' hc s' hn=>by
  refine ⟨_,rfl,.inl ⟨_,rfl,hx1,_,rfl,bF (by omega),_,rfl,bF (by omega),_,rfl,.inl ⟨_,rfl,hy1,_,rfl,bF (by omega),_,rfl,f5 c hc,f5 c hc,?_⟩⟩⟩
  exact ⟨smn 1,fun e T he hT=>((thr n hn).up s').made he hT⟩
 refine ⟨_,rfl,pt,_,_,_,rfl,rfl,SqT.of e3,aR _ _,_,rfl,pt,_,_,_,rfl,rfl,SqT.of e3,aJ (xs:=[V.int ((aP L x:Nat):Int),.int ((aP L y:Nat):Int)]) (j:=1) rfl,rfl,_,rfl,?_⟩
 have ei:decide (V.int ((aP L x:Nat):Int)=V.int ((aP L y:Nat):Int))=decide (aP L x=aP L y):=by
  rw [decide_eq_decide]
  exact ⟨fun h=>by injection h with h; omega,fun h=>by rw [h]⟩
 rw [ei]
 refine fV (fun z=>?_) (fun z=>?_)
 ·exact rs " can't be joined" 1 H3 (by decide +kernel) s03 (by rw [hJ,if_pos (show ((aP L x != aP L y) || decide (x=y))=true by rw [show (aP L x != aP L y)=true by simpa using z,Bool.true_or])])
 have z1:aP L x=aP L y:=by simpa using z
 refine ⟨_,rfl,_,rfl,rfl,_,rfl,?_⟩
 rw [Jz]
 refine fV (fun z=>?_) (fun z=>?_)
 ·exact rs " can't be joined" 1 H3 (by decide +kernel) s03 (by rw [hJ,if_pos (show ((aP L x != aP L y) || decide (x=y))=true by rw [z,Bool.or_true])])
 have z2:¬ x=y:=by simpa using z
 have hJ2:mU L R ks al x y=(if neD (cu L ks x) (cu L ks y) || (decide (x∈al) != decide (y∈al)) then some 4 else none):=by
  rw [hJ,if_neg]
  rw [z1,decide_eq_false z2]
  simp
 refine ⟨_,rfl,_,rfl,v,L,R,ks,al,x,rfl,hv.same s03,h1,h2,by omega,hmo,fun p' _=>zf fun u1 H4 s4 d4=>?_,fun z=>by rw [hp] at z; cases z⟩
 have s04:=s03.trans s4
 refine ⟨_,rfl,_,rfl,v,L,R,ks,al,y,rfl,hv.same s04,h1,h2,by omega,hmo,fun p' _=>zf fun u2 H5 s5 d5=>?_,fun z=>by rw [hp2] at z; cases z⟩
 have s05:=s04.trans s5
 refine JL (d4.same s5) d5 (fun k hk=>hsh k (rM hk)) (fun k hk=>hsh k (rM hk)) ⟨_,rfl,?_⟩
 refine fV (fun z=>?_) (fun z=>?_)
 ·exact rs " don't stand alike" 4 H5 (by decide +kernel) s05 (by rw [hJ2,if_pos (show (neD (cu L ks x) (cu L ks y) || (decide (x∈al) != decide (y∈al)))=true by rw [z,Bool.true_or])])
 have z3:neD (cu L ks x) (cu L ks y)=false:=by simpa using z
 obtain ⟨pb,pl,pr,pk,pa,ls,rs',ws,rfl,hpb,hpl,hdl,hpr,hdr,hpk,hdk,hpa⟩:=hv
 have a3:=aJ (xs:=[V.ref pl,V.ref pr,V.ref pk,V.ref pa]) (j:=3) rfl
 refine ⟨_,rfl,_,rfl,pb,_,_,_,rfl,rfl,stT s05 hpb,a3,pa,_,rfl,.inr (stT s05 hpa),rfl,dY _,?_⟩
 refine ⟨_,rfl,_,rfl,pb,_,_,_,rfl,rfl,stT s05 hpb,a3,pa,_,rfl,.inr (stT s05 hpa),rfl,dY _,rfl,_,rfl,?_⟩
 rw [show (if false=true then !inV (mkT x) (al.map mkT) else inV (mkT x) (al.map mkT))=inV (mkT x) (al.map mkT) from rfl,show (if false=true then !inV (mkT y) (al.map mkT) else inV (mkT y) (al.map mkT))=inV (mkT y) (al.map mkT) from rfl,lB,lB]
 have eb:(!decide (V.bl (decide (x∈al))=V.bl (decide (y∈al))))=(decide (x∈al) != decide (y∈al)):=by
  cases decide (x∈al) <;> cases decide (y∈al) <;> rfl
 rw [eb]
 refine fV (fun z=>?_) (fun z=>?_)
 ·exact rs " don't stand alike" 4 H5 (by decide +kernel) s05 (by rw [hJ2,if_pos (show (neD (cu L ks x) (cu L ks y) || (decide (x∈al) != decide (y∈al)))=true by rw [z,Bool.or_true])])
 ·exfalso
  rw [hJ2,if_neg (by rw [z3,Bool.false_or]; exact z)] at he
  cases he
end
def sdD (L:List Prt) (n:Int) (x:List Nat):D:=.tup [.int ((aP L x:Nat):Int),.int n]
def prs (xs ys:Nms):List (List Nat × Int):=xs.map (fun x=>(x,0))++ys.map (fun x=>(x,1))
theorem Gi (L:List Prt) (xs ys:Nms):(prs xs ys).map (fun z=>sdD L z.2 z.1)=xs.map (sdD L 0)++ys.map (sdD L 1):=by
 unfold prs
 rw [List.map_append,List.map_map,List.map_map]
 rfl
def Hh (L:List Prt) (z:List Nat × Int):Bool:=decide (((aP L z.1:Nat):Int)≠z.2)
theorem Gg (L:List Prt) (xs ys:Nms):(prs xs ys).any (Hh L)=(xs.any (aP L · != 0) || ys.any (aP L · != 1)):=by
 unfold prs
 rw [List.any_append,List.any_map,List.any_map]
 congr 1
 ·congr 1
  funext x
  show decide (((aP L x:Nat):Int)≠0)=(aP L x != 0)
  rw [Bool.eq_iff_iff,decide_eq_true_eq,bne_iff_ne]
  omega
 ·congr 1
  funext x
  show decide (((aP L x:Nat):Int)≠1)=(aP L x != 1)
  rw [Bool.eq_iff_iff,decide_eq_true_eq,bne_iff_ne]
  omega
section
variable {P:Program} {w:World} {K:PySem.W.Frag} {mg:Str→Option Value} {base:Heap} {a_NoPart a_NoPlace a_Twice a_Linked a_Apart:Addr}
theorem iy:aK ["book", "ones", "others", "sides"] ["book", "ones", "others"] (aC bU):=⟨rfl,rfl,rfl,by decide +kernel,rfl,by decide +kernel,by decide +kernel⟩
theorem lC (h:Has K mg "check_linkable" bU ["book", "ones", "others"]) (q_NoPlace:mg "NoPlace" = some (.ref a_NoPlace)) (x_NoPlace:PySem.W.excIn K a_NoPlace vBm "ValueError.__new__" = true) (q_Linked:mg "Linked" = some (.ref a_Linked)) (x_Linked:PySem.W.excIn K a_Linked vBm "ValueError.__new__" = true) (C_side_of:cM P w K mg base "side_of" 2 ["book", "name"] (fu K a_NoPart)) (C_is_lacking:cM P w K mg base "is_lacking" 4 ["book", "name"] (tE K a_NoPart)) (m_any:mg "any" = none) (m_all:mg "all" = none):cM P w K mg base "check_linkable" 5 ["book", "ones", "others"] (ou K (c5 a_NoPart a_NoPlace a_Twice a_Linked a_Apart)):=by
 refine h.mk1 iy (fun vs H Q E hs=>?_) (fun f cdv A outer s H vs Q E hr hs=>?_)
 ·obtain ⟨v,p,q,L,R,ks,al,xs,ys,rfl,_⟩:=hs
  rfl
 obtain ⟨v,p,q,L,R,ks,al,xs,ys,rfl,hp,hq,hv,⟨h1,h2,hmo⟩,hln,hlx,hly,e,he,k⟩:=hs
 refine ⟨_,(ao (aH (i:=3) iy.nd rfl (Or.inl rfl) (aV mL (rY Dy rfl rfl ["book", "ones", "others", "sides"] (aC bU) ["book", "name"] [some 0,none] rfl rfl rfl (dR (pv 1)) rfl (by decide +kernel) (by decide +kernel) (by decide +kernel) (by decide +kernel) (hg:=fun cl C s H ex pn E=>(aU (i:=1) (by decide +kernel:(["book", "name"]:List Str).Nodup) rfl (Or.inl rfl))) (ht:=fun cl C s H ex pn E=>cJ) (he:=fun cl C s H ex pn E hx=>(cH (aj (aW C_side_of hr (by decide) rfl hx (aj (pv 0) (aj (pv 1) au))) (aj aB au))))) (rY Dy rfl rfl ["book", "ones", "others", "sides"] (aC bU) ["book", "name"] [some 0,none] rfl rfl rfl (dR (pv 2)) rfl (by decide +kernel) (by decide +kernel) (by decide +kernel) (by decide +kernel) (hg:=fun cl C s H ex pn E=>(aU (i:=1) (by decide +kernel:(["book", "name"]:List Str).Nodup) rfl (Or.inl rfl))) (ht:=fun cl C s H ex pn E=>cJ) (he:=fun cl C s H ex pn E hx=>(cH (aj (aW C_side_of hr (by decide) rfl hx (aj (pv 0) (aj (pv 1) au))) (aj aB au)))))))
  (ao (dM (n6 (bH (xQ rfl) rfl m_any boot_any (aj (cN ["book", "ones", "others", "sides"] (aC bU) ["side", "due"] [none,none] rfl rfl rfl (jq (pv 3)) rfl (by decide +kernel) (by decide +kernel) (by decide +kernel) (by decide +kernel) (g:=Mj K 2 (Gd (qU 0) (Gd (qU 1) Mv))) (hg:=fun cl C s H ex pn E=>uV (n:=2) rfl (eY (aU (i:=0) (by decide +kernel:(["side", "due"]:List Str).Nodup) rfl (Or.inl rfl) (Or.inr rfl)) (eY (aU (i:=1) (by decide +kernel:(["side", "due"]:List Str).Nodup) rfl (Or.inl rfl) (Or.inr rfl)) pX))) (ht:=fun cl C s H ex pn E=>cJ) (he:=fun cl C s H ex pn E=>(fJ oY (pv 0) (pv 1) (bZ _)))) au)))
   (aF (cO rfl c7 rfl q_NoPlace x_NoPlace (aj aA au)))
   bN)
  (aF (dM (uZ (n6 (bH (yP rfl) rfl m_all boot_all (aj (cN ["book", "ones", "others", "sides"] (aC bU) ["book", "name"] [some 0,none] rfl rfl rfl (dR (aV gq (pv 1) (pv 2))) rfl (by decide +kernel) (by decide +kernel) (by decide +kernel) (by decide +kernel) (hg:=fun cl C s H ex pn E=>(aU (i:=1) (by decide +kernel:(["book", "name"]:List Str).Nodup) rfl (Or.inl rfl))) (ht:=fun cl C s H ex pn E=>cJ) (he:=fun cl C s H ex pn E=>(aW C_is_lacking hr (by decide) rfl uf (aj (pv 0) (aj (pv 1) au))))) au))))
   (aF (cO rfl c7 rfl q_Linked x_Linked (aj aA au)))
   bN)))),?_⟩
 have thr:∀ n,rD L R ks al xs ys=some n→aZ (c5 a_NoPart a_NoPlace a_Twice a_Linked a_Apart n) H E:=fun n hn=>by
  rw [he] at hn
  cases hn
  exact k
 have t0:∀ x∈xs++ys,bD (L++R) x=none→aZ a_NoPart H E:=fun x hx z=>thr 0 (by
  unfold rD
  rw [if_neg]
  intro hall
  have:=List.all_eq_true.mp hall x hx
  rw [gQ z] at this
  cases this)
 have hsi:∀ z:List Nat,((if (bD L z).isSome=true then (0:Int) else 1))=((aP L z:Nat):Int):=fun z=>by unfold aP; cases (bD L z).isSome <;> rfl
 refine ⟨_,rfl,p,rfl,⟨_,SqT.of hp⟩,fun lc hlc=>?_⟩
 refine cY (J:=Itt K p) (l:=lc) xs.length (fun i σ' H'=>∃ (n:Option V) (ws:List V),σ'=[some v,n]∧Same H H'∧H' lc=some (.lst ws)∧ws.length=i∧(∀ x∈xs.take i,isP L R x=true)∧cg H' ws ((xs.take i).map (sdD L 0))) ⟨none,[],rfl,aq hlc _,ak,rfl,(fun x hx=>by rw [List.take_zero] at hx; cases hx),trivial⟩ ?_ ?_
 rotate_left
 ·rintro i σ' H' hi ⟨n,ws,rfl,s1,e1,hwl,hPi,d1⟩
  have hat:(xs.map mkT)[i]?=some (mkT xs[i]):=by rw [List.getElem?_map,bM hi]; rfl
  have s1':=s1
  refine ⟨⟨_,_,SqT.of (s1' _ _ hp),hat⟩,?_⟩
  rintro N hN y H'' ⟨rfl,hy⟩
  have ey:y=mkT xs[i]:=Option.some.inj ((hy _ (SqT.of (s1' _ _ hp))).symm.trans hat)
  have hm:xs[i]∈xs++ys:=List.mem_append_left _ (List.getElem_mem hi)
  have htk:=take_one (bM hi)
  generalize xs[i]=x at ey hm htk
  subst ey
  refine gN (vf (rR ?_))
  refine ⟨_,rfl,_,rfl,v,L,R,ks,al,x,rfl,hv.same s1',h1,h2,Nat.le_trans (hln x hm) (by decide),hmo,fun p0 hp0 H2 s2=>?_,fun z=>((t0 x hm z).up s1').outV⟩
  rw [hsi]
  refine ⟨smn 2,fun pt hpt=>?_⟩
  have s3:=aq hpt (.tup [.int ((aP L x:Nat):Int),.int 0])
  have e3:(upd H2 pt (.tup [.int ((aP L x:Nat):Int),.int 0])) pt=some (.tup [.int ((aP L x:Nat):Int),.int 0]):=ak
  generalize upd H2 pt (.tup [.int ((aP L x:Nat):Int),.int 0])=H3 at s3 e3 ⊢
  have e4:=s3 _ _ (s2 _ _ e1)
  refine ⟨ws,e4,aN (by omega),hN _ _ ⟨_,ws++[.ref pt],rfl,aL (s1.trans (s2.trans s3)) hlc,ak,by rw [List.length_append,hwl]; rfl,?_,?_⟩⟩
  ·intro x' hx'
   rw [htk] at hx'
   rcases List.mem_append.mp hx' with z | z
   ·exact hPi x' z
   ·rw [List.mem_singleton.mp z]
    exact dW hp0
  rw [htk,List.map_append]
  exact fD ((d1.same (s2.trans s3)).keepT (pA e4)) ⟨⟨pt,_,rfl,pA e4 _ _ e3,rfl,rfl,trivial⟩,trivial⟩
 rintro σ' H1 ⟨n,ws,rfl,s1,e1,hwl,hP1,d1⟩
 rw [List.take_length] at d1 hP1
 refine ⟨⟨_,SqT.of (s1 _ _ hp),by rw [List.length_map]; exact Nat.le_refl _⟩,?_⟩
 clear n
 refine ⟨_,rfl,q,rfl,⟨_,SqT.of (s1 _ _ hq)⟩,fun lc2 hlc2=>?_⟩
 refine cY (J:=Itt K q) (l:=lc2) ys.length (fun i σ' H'=>∃ (n:Option V) (us:List V),σ'=[some v,n]∧Same H1 H'∧H' lc2=some (.lst us)∧us.length=i∧(∀ x∈ys.take i,isP L R x=true)∧cg H' us ((ys.take i).map (sdD L 1))) ⟨none,[],rfl,aq hlc2 _,ak,rfl,(fun x hx=>by rw [List.take_zero] at hx; cases hx),trivial⟩ ?_ ?_
 rotate_left
 ·have s10:=s1
  clear hwl d1 e1
  rintro i σ' H' hi ⟨n,ws,rfl,s1,e1,hwl,hPi,d1⟩
  have hat:(ys.map mkT)[i]?=some (mkT ys[i]):=by rw [List.getElem?_map,bM hi]; rfl
  have s1':=s10.trans s1
  refine ⟨⟨_,_,SqT.of (s1' _ _ hq),hat⟩,?_⟩
  rintro N hN y H'' ⟨rfl,hy⟩
  have ey:y=mkT ys[i]:=Option.some.inj ((hy _ (SqT.of (s1' _ _ hq))).symm.trans hat)
  have hm:ys[i]∈xs++ys:=List.mem_append_right _ (List.getElem_mem hi)
  have htk:=take_one (bM hi)
  generalize ys[i]=x at ey hm htk
  subst ey
  refine gN (vf (rR ?_))
  refine ⟨_,rfl,_,rfl,v,L,R,ks,al,x,rfl,hv.same s1',h1,h2,Nat.le_trans (hln x hm) (by decide),hmo,fun p0 hp0 H2 s2=>?_,fun z=>((t0 x hm z).up s1').outV⟩
  rw [hsi]
  refine ⟨smn 2,fun pt hpt=>?_⟩
  have s3:=aq hpt (.tup [.int ((aP L x:Nat):Int),.int 1])
  have e3:(upd H2 pt (.tup [.int ((aP L x:Nat):Int),.int 1])) pt=some (.tup [.int ((aP L x:Nat):Int),.int 1]):=ak
  generalize upd H2 pt (.tup [.int ((aP L x:Nat):Int),.int 1])=H3 at s3 e3 ⊢
  have e4:=s3 _ _ (s2 _ _ e1)
  refine ⟨ws,e4,aN (by omega),hN _ _ ⟨_,ws++[.ref pt],rfl,aL (s1.trans (s2.trans s3)) hlc2,ak,by rw [List.length_append,hwl]; rfl,?_,?_⟩⟩
  ·intro x' hx'
   rw [htk] at hx'
   rcases List.mem_append.mp hx' with z | z
   ·exact hPi x' z
   ·rw [List.mem_singleton.mp z]
    exact dW hp0
  rw [htk,List.map_append]
  exact fD ((d1.same (s2.trans s3)).keepT (pA e4)) ⟨⟨pt,_,rfl,pA e4 _ _ e3,rfl,rfl,trivial⟩,trivial⟩
 rintro σ' H2 ⟨n,us,rfl,s2,e2,hul,hP2,d2⟩
 rw [List.take_length] at d2 hP2
 have s02:=s1.trans s2
 refine ⟨⟨_,SqT.of (s02 _ _ hq),by rw [List.length_map]; exact Nat.le_refl _⟩,?_⟩
 clear n
 refine ⟨lc,lc2,_,_,rfl,rfl,s2 _ _ e1,e2,small (by omega),fun l3 hl3=>?_⟩
 have s3:=aq hl3 (.lst (ws++us))
 have e3:(upd H2 l3 (.lst (ws++us))) l3=some (.lst (ws++us)):=ak
 have d3:=(fD (d1.same s2) d2).same s3
 rw [← Gi] at d3
 generalize upd H2 l3 (.lst (ws++us))=H3 at s3 e3 d3 ⊢
 have s03:=s02.trans s3
 have hW:=d3.len
 rw [List.length_map] at hW
 have hPl:(prs xs ys).length≤200:=by
  unfold prs
  rw [List.length_append,List.length_map,List.length_map]
  omega
 have hall:(xs++ys).all (isP L R)=true:=by
  rw [List.all_append,Bool.and_eq_true]
  exact ⟨List.all_eq_true.mpr hP1,List.all_eq_true.mpr hP2⟩
 have hE:rD L R ks al xs ys=(if (prs xs ys).any (Hh L) then some 1 else if (xs++ys).all (jc L ks al) then none else some 3):=by
  unfold rD
  rw [if_pos hall,Gg]
 generalize ws++us=W at e3 d3 hW
 generalize prs xs ys=pr at d3 hW hPl hE
 clear hP1 hP2
 have hbl:∀ (bs:List Bool) (i:Nat),(bs.map V.bl)[i]?=none∨True:=fun _ _=>.inr trivial
 refine ⟨_,rfl,l3,rfl,⟨_,SqL.of e3⟩,fun l4 hl4=>?_⟩
 refine cY (J:=Itl K l3) (l:=l4) W.length (fun i σ' H'=>∃ (n m:Option V),σ'=[n,m]∧Same H3 H'∧H' l4=some (.lst (((pr.take i).map (Hh L)).map V.bl))) ⟨none,none,rfl,aq hl4 _,ak⟩ ?_ ?_
 rotate_left
 ·rintro i σ' H' hi ⟨n,m,rfl,s4,e4⟩
  have hil:i < pr.length:=by omega
  refine ⟨⟨_,_,SqL.of (s4 _ _ e3),bM hi⟩,?_⟩
  rintro N hN y H'' ⟨rfl,hy⟩
  have ey:y=W[i]:=Option.some.inj ((hy _ (SqL.of (s4 _ _ e3))).symm.trans (bM hi))
  have dy:Den H3 W[i] (sdD L pr[i].2 pr[i].1):=at_of d3 (bM hi) (by rw [List.getElem?_map,bM hil]; rfl)
  have htk:=take_one (bM hil)
  rw [← ey] at dy
  generalize pr[i]=z at dy htk
  obtain ⟨b,vs,rfl,hb,dv⟩:=aQ (dy.same s4)
  obtain ⟨u0,u1,rfl⟩:∃ u0 u1,vs=[u0,u1]:=by
   match vs,dv with
   | [a,b],_=>exact ⟨a,b,rfl⟩
   | [],h=>exact h.elim
   | [_],h=>exact h.2.elim
   | _ :: _ :: _ :: _,h=>exact h.2.2.elim
  obtain ⟨rfl,rfl,_⟩:u0=.int ((aP L z.1:Nat):Int)∧u1=.int z.2∧True:=⟨dv.1,dv.2.1,trivial⟩
  refine ⟨b,_,rfl,SqT.of hb,rfl,_,_,rfl,_,_,rfl,rfl,?_⟩
  refine vf (rR ⟨_,rfl,_,rfl,rfl,_,e4,aN (by rw [List.length_map,List.length_map,List.length_take]; omega),hN _ _ ⟨_,_,rfl,aL s4 hl4,?_⟩⟩)
  rw [ak,htk,List.map_append,List.map_append]
  have eb:(!decide (V.int ((aP L z.1:Nat):Int)=V.int z.2))=Hh L z:=by
   unfold Hh
   rw [Bool.eq_iff_iff,Bool.not_eq_true',decide_eq_false_iff_not,decide_eq_true_eq]
   exact ⟨fun h e=>h (by rw [e]),fun h e=>h (by injection e)⟩
  rw [eb]
  rfl
 rintro σ' H4 ⟨n,m,rfl,s4,e4⟩
 rw [hW,List.take_length] at e4
 have s04:=s03.trans s4
 refine ⟨⟨_,SqL.of (s4 _ _ e3),Nat.le_refl _⟩,l4,_,rfl,SqL.of e4,_,rfl,?_⟩
 have ea:(pr.map (Hh L)).any id=pr.any (Hh L):=by rw [List.any_map]; rfl
 rw [ea]
 refine fV (fun z=>?_) (fun z=>?_)
 ·exact ⟨smn 1,fun e T he hT=>((thr 1 (by rw [hE,if_pos z])).up s04).made he hT⟩
 rw [if_neg z] at hE
 clear n m
 refine ⟨_,rfl,_,rfl,p,q,_,_,rfl,rfl,s04 _ _ hp,s04 _ _ hq,small (by rw [List.length_map,List.length_map]; omega),fun r H5 s5 e5=>?_⟩
 have s05:=s04.trans s5
 rw [← List.map_append] at e5
 refine ⟨r,rfl,⟨_,SqT.of e5⟩,fun l6 hl6=>?_⟩
 have hzl:(xs++ys).length≤200:=by rw [List.length_append]; omega
 have hzp:∀ x∈xs++ys,isP L R x=true:=List.all_eq_true.mp hall
 generalize xs++ys=zs at e5 hzl hln hE hzp
 refine cY (J:=Itt K r) (l:=l6) zs.length (fun i σ' H'=>∃ (n:Option V),σ'=[some v,n]∧Same H5 H'∧H' l6=some (.lst (((zs.take i).map (jc L ks al)).map V.bl))) ⟨none,rfl,aq hl6 _,ak⟩ ?_ ?_
 rotate_left
 ·rintro i σ' H' hi ⟨n,rfl,s6,e6⟩
  have hat:(zs.map mkT)[i]?=some (mkT zs[i]):=by rw [List.getElem?_map,bM hi]; rfl
  refine ⟨⟨_,_,SqT.of (s6 _ _ e5),hat⟩,?_⟩
  rintro N hN y H'' ⟨rfl,hy⟩
  have ey:y=mkT zs[i]:=Option.some.inj ((hy _ (SqT.of (s6 _ _ e5))).symm.trans hat)
  have hm:zs[i]∈zs:=List.getElem_mem hi
  have htk:=take_one (bM hi)
  generalize zs[i]=x at ey hm htk
  subst ey
  have s06:=s05.trans s6
  refine gN (vf (rR ⟨_,rfl,_,rfl,v,L,R,ks,al,x,rfl,hv.same s06,⟨h1,h2,hmo⟩,Nat.le_trans (hln x hm) (by decide),fun _ H7 s7=>?_,fun z=>by rw [hzp x hm] at z; cases z⟩))
  refine ⟨_,s7 _ _ e6,aN (by rw [List.length_map,List.length_map,List.length_take]; omega),hN _ _ ⟨_,rfl,aL (s6.trans s7) hl6,?_⟩⟩
  rw [ak,htk,List.map_append,List.map_append]
  rfl
 rintro σ' H6 ⟨n,rfl,s6,e6⟩
 rw [List.take_length] at e6
 refine ⟨⟨_,SqT.of (s6 _ _ e5),by rw [List.length_map]; exact Nat.le_refl _⟩,l6,_,rfl,SqL.of e6,_,rfl,?_⟩
 have ea:(zs.map (jc L ks al)).all id=zs.all (jc L ks al):=by rw [List.all_map]; rfl
 rw [ea]
 refine fV (fun z=>?_) (fun z=>?_)
 ·rw [Bool.not_eq_true'] at z
  exact ⟨smn 1,fun e T he hT=>((thr 3 (by rw [hE,if_neg (by rw [z]; decide)])).up (s05.trans s6)).made he hT⟩
 ·exfalso
  have z':zs.all (jc L ks al)=true:=by simpa using z
  rw [he,if_pos z'] at hE
  cases hE
end
inductive Dd
 | put (n:Nat) (b x tx:List Nat)
 | take (x:List Nat)
 | part (x:List Nat) (at_:Int) (y:List Nat)
 | join (x y:List Nat)
 | move (x b:List Nat)
 | change (x tx:List Nat)
 | word (x:List Nat) (k:Int) (wd:List Nat)
 | link (xs ys:Nms)
 | loose (x:List Nat)
 | step (x:List Nat)
 | alone (x:List Nat)
 | lack (x:List Nat)
def Dd.ix:Dd→Nat
 | .put ..=>0
 | .take ..=>1
 | .part ..=>2
 | .join ..=>3
 | .move ..=>4
 | .change ..=>5
 | .word ..=>6
 | .link ..=>7
 | .loose ..=>8
 | .step ..=>9
 | .alone ..=>10
 | .lack ..=>11
def xW (H:Hp) (pd:Addr) (t:Int):Dd→Prop
 | .put n b x tx=>H pd=some (.tup [.str Cp,.int t,.int (n:Nat),mkT b,mkT x,mkT tx])
 | .take x=>H pd=some (.tup [.str (Str.ofString "take"),.int t,mkT x])
 | .part x a y=>H pd=some (.tup [.str (Str.ofString "part"),.int t,mkT x,.int a,mkT y])
 | .join x y=>H pd=some (.tup [.str (Str.ofString "join"),.int t,mkT x,mkT y])
 | .move x b=>H pd=some (.tup [.str (Str.ofString "move"),.int t,mkT x,mkT b])
 | .change x tx=>H pd=some (.tup [.str (Str.ofString "change"),.int t,mkT x,mkT tx])
 | .word x k wd=>H pd=some (.tup [.str (Str.ofString "word"),.int t,mkT x,.int k,mkT wd])
 | .link xs ys=>∃ p q,H pd=some (.tup [.str (Str.ofString "link"),.int t,.ref p,.ref q])∧H p=some (.tup (xs.map mkT))∧H q=some (.tup (ys.map mkT))
 | .loose x=>H pd=some (.tup [.str (Str.ofString "loose"),.int t,mkT x])
 | .step x=>H pd=some (.tup [.str (Str.ofString "step"),.int t,mkT x])
 | .alone x=>H pd=some (.tup [.str (Str.ofString "alone"),.int t,mkT x])
 | .lack x=>H pd=some (.tup [.str (Str.ofString "lack"),.int t,mkT x])
def FW (L R:List Prt) (x:List Nat):Nat:=match bD (L++R) x with | some p=>(M01.wds p.2.1).length | none=>0
def Bj (L R:List Prt) (x:List Nat):Nat:=match bD (L++R) x with | some p=>p.2.1.length | none=>0
noncomputable def dE (L R:List Prt) (ks:List Lnk) (al:Nms):Dd→Option Nat
 | .put n b x _=>wX L R n b x
 | .take x=>if isP L R x then none else some 0
 | .part x a y=>if isP L R x then (if isP L R y then some 2 else if 1≤a∧a < Bj L R x then none else some 1) else some 0
 | .join x y=>mU L R ks al x y
 | .move x b=>if isP L R x then (eG L R (aP L x) b).or (if b=x then some 1 else none) else some 0
 | .change x _=>if isP L R x then none else some 0
 | .word x k _=>if isP L R x then (if (FW L R x:Int)≤k then some 1 else none) else some 0
 | .link xs ys=>rD L R ks al xs ys
 | .loose x=>if isP L R x then (if (cu L ks x).isSome then none else some 4) else some 0
 | .step x=>if isP L R x then (if (cu L ks x).isSome then none else some 4) else some 0
 | .alone x=>if isP L R x then (if jc L ks al x then none else some 3) else some 0
 | .lack x=>if isP L R x then (if x∈al then none else some 4) else some 0
def Dd.sm:Dd→Prop
 | .put n b x _=>n≤1∧b.length≤400∧x.length≤400
 | .part x a y=>x.length≤400∧y.length≤400∧0≤a∧a≤1000
 | .word x a _=>x.length≤400∧0≤a∧a≤1000
 | .join x y=>x.length≤400∧y.length≤400
 | .move x y=>x.length≤400∧y.length≤400
 | .link xs ys=>(∀ x∈xs++ys,x.length≤400)∧xs.length≤100∧ys.length≤100
 | .take x=>x.length≤400
 | .change x _=>x.length≤400
 | .loose x=>x.length≤400
 | .step x=>x.length≤400
 | .alone x=>x.length≤400
 | .lack x=>x.length≤400
structure BkS (L R:List Prt) (ks:List Lnk):Prop where
 sm:SmB L R
 tx:∀ p∈L++R,p.2.1.length≤400
 sh:∀ k∈ks,fH 50 (bK k)
def j8 (C:Nat→Addr) (n:Nat):Sp:=fun vs H Q E=>∃ (v:V) (pd:Addr) (t:Int) (d:Dd) (L R:List Prt) (ks:List Lnk) (al:Nms) (e:Nat),vs=[v,.ref pd]∧Den H v (dH L R ks al)∧xW H pd t d∧d.ix=n∧BkS L R ks∧d.sm∧dE L R ks al d=some e∧aZ (C e) H E
def rG (C:Addr):Sp:=fun vs H Q E=>∃ (v a b:V) (L R:List Prt) (ks:List Lnk) (al:Nms) (x:List Nat),vs=[v,mkT x,a,b]∧Den H v (dH L R ks al)∧SmB L R∧x.length≤1000∧isP L R x=false∧aZ C H E
theorem Ey {a:Int} (h0:0≤a) (h1:a≤1000):(Str.ofString (toString a)).length≤4:=by
 have:∀ n:Fin 1001,(Str.ofString (toString ((n.val:Nat):Int))).length≤4:=by decide +kernel
 have:=this ⟨a.toNat,by omega⟩
 rw [show (((⟨a.toNat,by omega⟩:Fin 1001).val:Nat):Int)=a by show ((a.toNat:Nat):Int)=a; omega] at this
 exact this
theorem Ec {a:Int} (h0:0≤a) (h1:a≤1000):a.natAbs.log2 < 1920:=by
 have:a.natAbs < 2 ^ 1920:=Nat.lt_of_lt_of_le (show a.natAbs < 1024 by omega) (by decide +kernel)
 by_cases h:a.natAbs=0
 ·rw [h]; decide
 ·exact (Nat.log2_lt h).mpr this
section
variable {P:Program} {w:World} {K:PySem.W.Frag} {mg:Str→Option Value} {base:Heap} {a_NoPart a_NoPlace a_Twice a_Linked a_Apart:Addr}
theorem kh:aK ["book", "deed", "name", "side", "link", "left_over"] ["book", "deed"] (aC jF):=⟨rfl,rfl,rfl,by decide +kernel,rfl,by decide +kernel,by decide +kernel⟩
theorem sW (h:Has K mg "take_done" jF ["book", "deed"]) (C_side_of:cM P w K mg base "side_of" 2 ["book", "name"] (fu K a_NoPart)):cM P w K mg base "take_done" 3 ["book", "deed"] (j8 (c5 a_NoPart a_NoPlace a_Twice a_Linked a_Apart) 1):=by
 refine h.mk1 kh (fun vs H Q E hs=>?_) (fun f cdv A outer s H vs Q E hr hs=>?_)
 ·obtain ⟨v,pd,t,d,L,R,ks,al,e,rfl,_⟩:=hs
  rfl
 obtain ⟨v,pd,t,d,L,R,ks,al,e,rfl,hv,hd,hw,⟨⟨h1,h2,hmo⟩,htx,hsh⟩,hsm,he,k⟩:=hs
 obtain ⟨x,rfl⟩:∃ x,d=.take x:=by cases d <;> first | exact ⟨_,rfl⟩ | cases hw
 refine ⟨_,(ao (aH (i:=2) kh.nd rfl (Or.inl rfl) (aM aO (pv 1) aB (fun _ _=>rfl)))
  (ao (aH (i:=3) kh.nd rfl (Or.inl rfl) (aW C_side_of hr (by decide) rfl bB (aj (pv 0) (aj (pv 2) au))))
  dB)),?_⟩
 have at_:∀ {j:Nat} {y:V},[V.str (Str.ofString "take"),.int t,mkT x][j]?=some y→atI [V.str (Str.ofString "take"),.int t,mkT x] (j:Nat)=some y:=fun h=>aJ h
 refine ⟨_,rfl,pd,_,_,_,rfl,rfl,SqT.of hd,at_ (j:=2) rfl,?_⟩
 refine ⟨_,rfl,_,rfl,v,L,R,ks,al,x,rfl,cP.of hv,h1,h2,Nat.le_trans hsm (by decide),hmo,fun p hp H1 s1=>?_,fun z=>?_⟩
 ·simp only [dE,dW hp] at he
  cases he
 ·have:some 0=some e:=by rw [← he]; simp only [dE,gQ z]; rfl
  cases this
  exact k.out
theorem rH:aK ["book", "name", "text", "t", "side", "part"] ["book", "name", "text", "t"] (aC lU):=⟨rfl,rfl,rfl,by decide +kernel,rfl,by decide +kernel,by decide +kernel⟩
theorem xO (h:Has K mg "changed" lU ["book", "name", "text", "t"]) (C_side_of:cM P w K mg base "side_of" 2 ["book", "name"] (fu K a_NoPart)):cM P w K mg base "changed" 3 ["book", "name", "text", "t"] (rG a_NoPart):=by
 refine h.mk1 rH (fun vs H Q E hs=>?_) (fun f cdv A outer s H vs Q E hr hs=>?_)
 ·obtain ⟨v,a,b,L,R,ks,al,x,rfl,_⟩:=hs
  rfl
 obtain ⟨v,a,b,L,R,ks,al,x,rfl,hv,⟨h1,h2,hmo⟩,hx,hn,k⟩:=hs
 refine ⟨_,(ao (aH (i:=4) rH.nd rfl (Or.inl rfl) (aW C_side_of hr (by decide) rfl bB (aj (pv 0) (aj (pv 1) au))))
  dB),?_⟩
 refine ⟨_,rfl,_,rfl,v,L,R,ks,al,x,rfl,cP.of hv,h1,h2,hx,hmo,fun p hp H1 s1=>?_,fun z=>k.out⟩
 rw [dW hp] at hn
 cases hn
theorem qQ:aK ["book", "deed"] ["book", "deed"] (aC gj):=⟨rfl,rfl,rfl,by decide +kernel,rfl,by decide +kernel,by decide +kernel⟩
theorem oW (h:Has K mg "change_done" gj ["book", "deed"]) (C_changed:cM P w K mg base "changed" 3 ["book", "name", "text", "t"] (rG a_NoPart)):cM P w K mg base "change_done" 4 ["book", "deed"] (j8 (c5 a_NoPart a_NoPlace a_Twice a_Linked a_Apart) 5):=by
 refine h.mk1 qQ (fun vs H Q E hs=>?_) (fun f cdv A outer s H vs Q E hr hs=>?_)
 ·obtain ⟨v,pd,t,d,L,R,ks,al,e,rfl,_⟩:=hs
  rfl
 obtain ⟨v,pd,t,d,L,R,ks,al,e,rfl,hv,hd,hw,⟨hsm2,htx,hsh⟩,hsm,he,k⟩:=hs
 obtain ⟨x,tx,rfl⟩:∃ x tx,d=.change x tx:=by cases d <;> first | exact ⟨_,_,rfl⟩ | cases hw
 refine ⟨_,(aF (bx (aW C_changed hr (by decide) rfl bB (aj (pv 0) (aj (aM aO (pv 1) aB (fun _ _=>rfl)) (aj (aM aO (pv 1) aB (fun _ _=>rfl)) (aj (aM aO (pv 1) aB (fun _ _=>rfl)) au))))))),?_⟩
 have at_:∀ {j:Nat} {y:V},[V.str (Str.ofString "change"),.int t,mkT x,mkT tx][j]?=some y→atI [V.str (Str.ofString "change"),.int t,mkT x,mkT tx] (j:Nat)=some y:=fun h=>aJ h
 have hn:isP L R x=false:=by
  cases hb:isP L R x with
  | false=>rfl
  | true=>simp only [dE,hb] at he; cases he
 have e0:some 0=some e:=by rw [← he]; simp only [dE,hn]; rfl
 cases e0
 refine ⟨_,rfl,_,rfl,pd,_,_,_,rfl,rfl,SqT.of hd,at_ (j:=2) rfl,_,rfl,pd,_,_,_,rfl,rfl,SqT.of hd,at_ (j:=3) rfl,_,rfl,pd,_,_,_,rfl,rfl,SqT.of hd,at_ (j:=1) rfl,?_⟩
 exact ⟨v,_,_,L,R,ks,al,x,rfl,hv,hsm2,Nat.le_trans hsm (by decide),hn,k.out⟩
end
theorem qm {L:List Prt} {x:List Nat} {p:Prt} (h:bD L x=some p):p∈L:=List.mem_of_find?_eq_some h
section
variable {P:Program} {w:World} {K:PySem.W.Frag} {mg:Str→Option Value} {base:Heap} {a_NoPart a_NoPlace a_Twice a_Linked a_Apart:Addr}
theorem fX:aK ["book", "deed", "name", "at", "more", "text", "side", "moments", "parts"] ["book", "deed"] (aC jH):=⟨rfl,rfl,rfl,by decide +kernel,rfl,by decide +kernel,by decide +kernel⟩
theorem uq (h:Has K mg "part_done" jH ["book", "deed"]) (q_NoPlace:mg "NoPlace" = some (.ref a_NoPlace)) (x_NoPlace:PySem.W.excIn K a_NoPlace vBm "ValueError.__new__" = true) (C_text_of:cM P w K mg base "text_of" 2 ["book", "name"] (qt K a_NoPart)) (C_check_new:cM P w K mg base "check_new" 3 ["book", "name"] (Fb K a_Twice)) (m_len:mg "len" = none):cM P w K mg base "part_done" 4 ["book", "deed"] (j8 (c5 a_NoPart a_NoPlace a_Twice a_Linked a_Apart) 2):=by
 refine h.mk1 fX (fun vs H Q E hs=>?_) (fun f cdv A outer s H vs Q E hr hs=>?_)
 ·obtain ⟨v,pd,t,d,L,R,ks,al,e,rfl,_⟩:=hs
  rfl
 obtain ⟨v,pd,t,d,L,R,ks,al,e,rfl,hv,hd,hw,⟨⟨h1,h2,hmo⟩,htx,hsh⟩,hsm,he,k⟩:=hs
 obtain ⟨x,a,y,rfl⟩:∃ x a y,d=.part x a y:=by cases d <;> first | exact ⟨_,_,_,rfl⟩ | cases hw
 refine ⟨_,(ao (aH (i:=2) fX.nd rfl (Or.inl rfl) (aM aO (pv 1) aB (fun _ _=>rfl)))
  (ao (aH (i:=3) fX.nd rfl (Or.inl rfl) (aM aO (pv 1) aB (fun _ _=>rfl)))
  (ao (aH (i:=4) fX.nd rfl (Or.inl rfl) (aM aO (pv 1) aB (fun _ _=>rfl)))
  (ao (aH (i:=5) fX.nd rfl (Or.inl rfl) (aW C_text_of hr (by decide) rfl bB (aj (pv 0) (aj (pv 2) au))))
  (ao (cL (aW C_check_new hr (by decide) rfl bB (aj (pv 0) (aj (pv 4) au))))
  (ao (dM (uZ (Cu KZ K6 aB (pv 3) (bH lg rfl m_len PySem.boot_len (aj (pv 5) au))))
   (aF (cO rfl c7 rfl q_NoPlace x_NoPlace (aj (eE (bC (d7 (pv 2)) (bC aA (bC (d7 (pv 3)) iz)))) au)))
   bN)
  dB)))))),?_⟩
 have at_:∀ {j:Nat} {yy:V},[V.str (Str.ofString "part"),.int t,mkT x,.int a,mkT y][j]?=some yy→atI [V.str (Str.ofString "part"),.int t,mkT x,.int a,mkT y] (j:Nat)=some yy:=fun h=>aJ h
 have thr:∀ n,dE L R ks al (.part x a y)=some n→aZ (c5 a_NoPart a_NoPlace a_Twice a_Linked a_Apart n) H E:=fun n hn=>by
  rw [he] at hn
  cases hn
  exact k
 refine ⟨_,rfl,pd,_,_,_,rfl,rfl,SqT.of hd,at_ (j:=2) rfl,?_⟩
 refine ⟨_,rfl,pd,_,_,_,rfl,rfl,SqT.of hd,at_ (j:=3) rfl,?_⟩
 refine ⟨_,rfl,pd,_,_,_,rfl,rfl,SqT.of hd,at_ (j:=4) rfl,?_⟩
 obtain ⟨g1,g2,g3,g4⟩:=hsm
 refine ⟨_,rfl,_,rfl,v,L,R,ks,al,x,rfl,cP.of hv,h1,h2,by omega,fun p hp H1 s1=>?_,fun z=>(thr 0 (by simp only [dE,gQ z]; rfl)).out⟩
 have hv1:=hv.same s1
 refine ⟨_,rfl,_,rfl,v,L,R,ks,al,y,rfl,cP.of hv1,h1,h2,by omega,fun hnew H2 s2=>?_,fun z=>((thr 2 (by simp only [dE,dW hp]; rw [show isP L R y=true from z]; rfl)).up s1).out⟩
 have hE:dE L R ks al (.part x a y)=if 1≤a∧a < ((p.2.1.length:Nat):Int) then none else some 1:=by
  have e1:Bj L R x=p.2.1.length:=by unfold Bj; rw [hp]
  simp only [dE,dW hp,gQ hnew,e1]
  rfl
 have s02:=s1.trans s2
 have hx1:(⟨x.toArray⟩:Str).length≤sizeLine:=by rw [lV]; exact bF (by omega)
 have f2:(Str.empty++(⟨x.toArray⟩:Str)).length≤400:=by rw [strLen_append]; have:=lV x; have:=FZ; omega
 have f3:((Str.empty++(⟨x.toArray⟩:Str))++Str.ofString " can't be parted at ").length≤450:=by rw [strLen_append]; have:(Str.ofString " can't be parted at ").length≤50:=(by decide +kernel); omega
 have f4:(((Str.empty++(⟨x.toArray⟩:Str))++Str.ofString " can't be parted at ")++Str.ofString (toString a)).length≤sizeLine:=by rw [strLen_append]; have:=Ey g3 g4; exact bF (by omega)
 have rs:¬ (1≤a∧a < ((p.2.1.length:Nat):Int))→zF a_NoPlace E (uy (fun σ H Q=>tJ1 (J4 (xr 2)) (tJ1 (tC (V.str (Str.ofString " can't be parted at "))) (tJ1 (J4 (xr 3)) tJ0)) σ H Str.empty Q) GP) { nx:=fun _ H'=>False,rt:=Q } [some v,some (.ref pd),some (mkT x),some (.int a),some (mkT y),some (mkT p.2.1),none,none,none] H2:=fun hn=>by
  refine ⟨_,rfl,.inl ⟨_,rfl,hx1,_,rfl,bF (by omega),_,rfl,bF (by omega),_,rfl,.inr ⟨a,rfl,Ec g3 g4,_,rfl,f4,f4,?_⟩⟩⟩
  exact ⟨smn 1,fun e T he hT=>((thr 1 (by rw [hE,if_neg hn])).up s02).made he hT⟩
 refine ⟨_,rfl,_,_,rfl,rfl,_,rfl,?_⟩
 refine fV (fun z=>?_) (fun z=>?_)
 ·have z:=of_decide_eq_true z
  refine ⟨_,rfl,_,rfl,by rw [lV]; exact bF (Nat.le_trans (htx p (qm hp)) (by decide)),_,_,rfl,rfl,_,rfl,?_⟩
  rw [lV]
  refine fV (fun z2=>?_) (fun z2=>?_)
  ·exact rs fun h=>by rw [decide_eq_true h.2] at z2; cases z2
  ·exfalso
   have z3:a < ((p.2.1.length:Nat):Int):=by simpa using z2
   rw [hE,if_pos ⟨z,z3⟩] at he
   cases he
 ·refine ⟨_,rfl,?_⟩
  refine fV (fun z2=>?_) (fun z2=>absurd rfl z2)
  exact rs fun h=>z (decide_eq_true h.1)
theorem kE:aK ["book", "deed", "name", "other", "side", "text", "moments", "parts", "joined", "link"] ["book", "deed"] (aC jM):=⟨rfl,rfl,rfl,by decide +kernel,rfl,by decide +kernel,by decide +kernel⟩
theorem tu (h:Has K mg "join_done" jM ["book", "deed"]) (C_check_joined:cM P w K mg base "check_joined" 4 ["book", "name", "other"] (vG K (c5 a_NoPart a_NoPlace a_Twice a_Linked a_Apart))):cM P w K mg base "join_done" 5 ["book", "deed"] (j8 (c5 a_NoPart a_NoPlace a_Twice a_Linked a_Apart) 3):=by
 refine h.mk1 kE (fun vs H Q E hs=>?_) (fun f cdv A outer s H vs Q E hr hs=>?_)
 ·obtain ⟨v,pd,t,d,L,R,ks,al,e,rfl,_⟩:=hs
  rfl
 obtain ⟨v,pd,t,d,L,R,ks,al,e,rfl,hv,hd,hw,⟨⟨h1,h2,hmo⟩,htx,hsh⟩,hsm,he,k⟩:=hs
 obtain ⟨x,y,rfl⟩:∃ x y,d=.join x y:=by cases d <;> first | exact ⟨_,_,rfl⟩ | cases hw
 refine ⟨_,(ao (aH (i:=2) kE.nd rfl (Or.inl rfl) (aM aO (pv 1) aB (fun _ _=>rfl)))
  (ao (aH (i:=3) kE.nd rfl (Or.inl rfl) (aM aO (pv 1) aB (fun _ _=>rfl)))
  (ao (cL (aW C_check_joined hr (by decide) rfl bB (aj (pv 0) (aj (pv 2) (aj (pv 3) au)))))
  dB))),?_⟩
 have at_:∀ {j:Nat} {yy:V},[V.str (Str.ofString "join"),.int t,mkT x,mkT y][j]?=some yy→atI [V.str (Str.ofString "join"),.int t,mkT x,mkT y] (j:Nat)=some yy:=fun h=>aJ h
 have thr:∀ n,dE L R ks al (.join x y)=some n→aZ (c5 a_NoPart a_NoPlace a_Twice a_Linked a_Apart n) H E:=fun n hn=>by
  rw [he] at hn
  cases hn
  exact k
 refine ⟨_,rfl,pd,_,_,_,rfl,rfl,SqT.of hd,at_ (j:=2) rfl,?_⟩
 refine ⟨_,rfl,pd,_,_,_,rfl,rfl,SqT.of hd,at_ (j:=3) rfl,?_⟩
 refine ⟨_,rfl,_,rfl,_,rfl,v,L,R,ks,al,x,y,rfl,cP.of hv,⟨h1,h2,hmo⟩,hsm.1,hsm.2,hsh,e,he,k.out⟩
theorem iR:aK ["book", "deed", "name", "behind", "side", "parts"] ["book", "deed"] (aC jy):=⟨rfl,rfl,rfl,by decide +kernel,rfl,by decide +kernel,by decide +kernel⟩
theorem tH (h:Has K mg "move_done" jy ["book", "deed"]) (q_NoPlace:mg "NoPlace" = some (.ref a_NoPlace)) (x_NoPlace:PySem.W.excIn K a_NoPlace vBm "ValueError.__new__" = true) (C_side_of:cM P w K mg base "side_of" 2 ["book", "name"] (fu K a_NoPart)) (C_check_behind:cM P w K mg base "check_behind" 3 ["book", "side", "behind"] (qH K a_NoPart a_NoPlace)):cM P w K mg base "move_done" 4 ["book", "deed"] (j8 (c5 a_NoPart a_NoPlace a_Twice a_Linked a_Apart) 4):=by
 refine h.mk1 iR (fun vs H Q E hs=>?_) (fun f cdv A outer s H vs Q E hr hs=>?_)
 ·obtain ⟨v,pd,t,d,L,R,ks,al,e,rfl,_⟩:=hs
  rfl
 obtain ⟨v,pd,t,d,L,R,ks,al,e,rfl,hv,hd,hw,⟨⟨h1,h2,hmo⟩,htx,hsh⟩,hsm,he,k⟩:=hs
 obtain ⟨x,b,rfl⟩:∃ x b,d=.move x b:=by cases d <;> first | exact ⟨_,_,rfl⟩ | cases hw
 refine ⟨_,(ao (aH (i:=2) iR.nd rfl (Or.inl rfl) (aM aO (pv 1) aB (fun _ _=>rfl)))
  (ao (aH (i:=3) iR.nd rfl (Or.inl rfl) (aM aO (pv 1) aB (fun _ _=>rfl)))
  (ao (aH (i:=4) iR.nd rfl (Or.inl rfl) (aW C_side_of hr (by decide) rfl bB (aj (pv 0) (aj (pv 2) au))))
  (ao (cL (aW C_check_behind hr (by decide) rfl bB (aj (pv 0) (aj (pv 4) (aj (pv 3) au)))))
  (ao (dM (bh nM (pv 3) (pv 2) (bZ _))
   (aF (cO rfl c7 rfl q_NoPlace x_NoPlace (aj (eE (bC (d7 (pv 2)) (bC aA iz))) au)))
   bN)
  dB))))),?_⟩
 have at_:∀ {j:Nat} {yy:V},[V.str (Str.ofString "move"),.int t,mkT x,mkT b][j]?=some yy→atI [V.str (Str.ofString "move"),.int t,mkT x,mkT b] (j:Nat)=some yy:=fun h=>aJ h
 have thr:∀ n,dE L R ks al (.move x b)=some n→aZ (c5 a_NoPart a_NoPlace a_Twice a_Linked a_Apart n) H E:=fun n hn=>by
  rw [he] at hn
  cases hn
  exact k
 refine ⟨_,rfl,pd,_,_,_,rfl,rfl,SqT.of hd,at_ (j:=2) rfl,?_⟩
 refine ⟨_,rfl,pd,_,_,_,rfl,rfl,SqT.of hd,at_ (j:=3) rfl,?_⟩
 obtain ⟨g1,g2⟩:=hsm
 have hx:x.length≤1000:=by omega
 refine ⟨_,rfl,_,rfl,v,L,R,ks,al,x,rfl,cP.of hv,h1,h2,hx,hmo,fun p0 hp0 H1 s1=>?_,fun z=>(thr 0 (by simp only [dE,gQ z]; rfl)).out⟩
 have hsi:((if (bD L x).isSome=true then (0:Int) else 1))=((aP L x:Nat):Int):=by unfold aP; cases (bD L x).isSome <;> rfl
 rw [hsi]
 have hmE:dE L R ks al (.move x b)=(eG L R (aP L x) b).or (if b=x then some 1 else none):=by simp only [dE,dW hp0]; rfl
 have hv1:=hv.same s1
 refine ⟨_,rfl,_,rfl,_,rfl,v,L,R,ks,al,aP L x,b,rfl,cP.of hv1,h1,h2,by omega,hmo,fun hok H2 s2=>?_,fun e1 e2=>((thr 0 (by rw [hmE,Ak e1 e2]; rfl)).up s1).out,fun e1 e2 e3=>((thr 1 (by rw [hmE,xT e1 e2 e3]; rfl)).up s1).out⟩
 have hpn:eG L R (aP L x) b=none:=vQ hok
 refine ⟨_,rfl,_,rfl,rfl,_,rfl,?_⟩
 rw [Jz]
 refine fV (fun z=>?_) (fun z=>?_)
 ·have e:b=x:=of_decide_eq_true z
  have hx1:(⟨x.toArray⟩:Str).length≤sizeLine:=by rw [lV]; exact bF (by omega)
  have hx3:((Str.empty++(⟨x.toArray⟩:Str))++Str.ofString " can't go behind itself").length≤sizeLine:=oH hx (by decide +kernel)
  refine ⟨_,rfl,.inl ⟨_,rfl,hx1,_,rfl,yQ hx,_,rfl,hx3,hx3,?_⟩⟩
  exact ⟨smn 1,fun e' T he hT=>((thr 1 (by rw [hmE,hpn,if_pos e]; rfl)).up (s1.trans s2)).made he hT⟩
 ·exfalso
  rw [hmE,hpn,if_neg (fun e=>z (decide_eq_true e))] at he
  cases he
theorem iY:aK ["book", "deed", "name", "k", "text"] ["book", "deed"] (aC jR):=⟨rfl,rfl,rfl,by decide +kernel,rfl,by decide +kernel,by decide +kernel⟩
theorem tG (h:Has K mg "word_done" jR ["book", "deed"]) (q_NoPlace:mg "NoPlace" = some (.ref a_NoPlace)) (x_NoPlace:PySem.W.excIn K a_NoPlace vBm "ValueError.__new__" = true) (C_text_of:cM P w K mg base "text_of" 2 ["book", "name"] (qt K a_NoPart)) (C_words:Cal P w K mg base "words_of" 2 ["text"] uz) (m_len:mg "len" = none):cM P w K mg base "word_done" 3 ["book", "deed"] (j8 (c5 a_NoPart a_NoPlace a_Twice a_Linked a_Apart) 6):=by
 refine h.mk1 iY (fun vs H Q E hs=>?_) (fun f cdv A outer s H vs Q E hr hs=>?_)
 ·obtain ⟨v,pd,t,d,L,R,ks,al,e,rfl,_⟩:=hs
  rfl
 obtain ⟨v,pd,t,d,L,R,ks,al,e,rfl,hv,hd,hw,⟨⟨h1,h2,hmo⟩,htx,hsh⟩,hsm,he,k⟩:=hs
 obtain ⟨x,a,wd,rfl⟩:∃ x a wd,d=.word x a wd:=by cases d <;> first | exact ⟨_,_,_,rfl⟩ | cases hw
 refine ⟨_,(ao (aH (i:=2) iY.nd rfl (Or.inl rfl) (aM aO (pv 1) aB (fun _ _=>rfl)))
  (ao (aH (i:=3) iY.nd rfl (Or.inl rfl) (aM aO (pv 1) aB (fun _ _=>rfl)))
  (ao (aH (i:=4) iY.nd rfl (Or.inl rfl) (aW C_text_of hr (by decide) rfl bB (aj (pv 0) (aj (pv 2) au))))
  (ao (dM (bh J5 (pv 3) (bH fj rfl m_len PySem.boot_len (aj (aY C_words hr (by decide) rfl (aj (pv 4) au)) au)) (bZ _))
   (aF (cO rfl c7 rfl q_NoPlace x_NoPlace (aj (eE (bC (d7 (pv 2)) (bC aA (bC (d7 (pv 3)) iz)))) au)))
   bN)
  dB)))),?_⟩
 have at_:∀ {j:Nat} {yy:V},[V.str (Str.ofString "word"),.int t,mkT x,.int a,mkT wd][j]?=some yy→atI [V.str (Str.ofString "word"),.int t,mkT x,.int a,mkT wd] (j:Nat)=some yy:=fun h=>aJ h
 have thr:∀ n,dE L R ks al (.word x a wd)=some n→aZ (c5 a_NoPart a_NoPlace a_Twice a_Linked a_Apart n) H E:=fun n hn=>by
  rw [he] at hn
  cases hn
  exact k
 refine ⟨_,rfl,pd,_,_,_,rfl,rfl,SqT.of hd,at_ (j:=2) rfl,?_⟩
 refine ⟨_,rfl,pd,_,_,_,rfl,rfl,SqT.of hd,at_ (j:=3) rfl,?_⟩
 obtain ⟨g1,g3,g4⟩:=hsm
 refine ⟨_,rfl,_,rfl,v,L,R,ks,al,x,rfl,cP.of hv,h1,h2,by omega,fun p hp H1 s1=>?_,fun z=>(thr 0 (by simp only [dE,gQ z]; rfl)).out⟩
 have hE:dE L R ks al (.word x a wd)=if ((M01.wds p.2.1).length:Int)≤a then some 1 else none:=by
  have e1:FW L R x=(M01.wds p.2.1).length:=by unfold FW; rw [hp]
  simp only [dE,dW hp,e1]
  rfl
 have hx1:(⟨x.toArray⟩:Str).length≤sizeLine:=by rw [lV]; exact bF (by omega)
 have f2:(Str.empty++(⟨x.toArray⟩:Str)).length≤400:=by rw [strLen_append]; have:=lV x; have:=FZ; omega
 have f3:((Str.empty++(⟨x.toArray⟩:Str))++Str.ofString " has no word ").length≤450:=by rw [strLen_append]; have:(Str.ofString " has no word ").length≤50:=(by decide +kernel); omega
 have f4:(((Str.empty++(⟨x.toArray⟩:Str))++Str.ofString " has no word ")++Str.ofString (toString a)).length≤sizeLine:=by rw [strLen_append]; have:=Ey g3 g4; exact bF (by omega)
 refine ⟨_,rfl,_,rfl,_,rfl,by rw [lV]; exact Nat.le_trans (htx p (qm hp)) (by decide),fun tw H2 s2 e2=>?_⟩
 refine ⟨tw,_,rfl,.inr (SqT.of e2),_,_,rfl,rfl,_,rfl,?_⟩
 rw [List.length_map,List.length_map]
 have ew:(⟨p.2.1.toArray⟩:Str).cps.toList=p.2.1:=by simp
 rw [ew]
 refine fV (fun z=>?_) (fun z=>?_)
 ·have z:=of_decide_eq_true z
  refine ⟨_,rfl,.inl ⟨_,rfl,hx1,_,rfl,bF (by omega),_,rfl,bF (by omega),_,rfl,.inr ⟨a,rfl,Ec g3 g4,_,rfl,f4,f4,?_⟩⟩⟩
  exact ⟨smn 1,fun e T he hT=>((thr 1 (by rw [hE,if_pos z])).up (s1.trans s2)).made he hT⟩
 ·exfalso
  rw [hE,if_neg (fun h=>z (decide_eq_true h))] at he
  cases he
theorem j7:aK ["book", "deed", "ones", "others", "link"] ["book", "deed"] (aC jD):=⟨rfl,rfl,rfl,by decide +kernel,rfl,by decide +kernel,by decide +kernel⟩
theorem tZ (h:Has K mg "link_done" jD ["book", "deed"]) (C_check_linkable:cM P w K mg base "check_linkable" 5 ["book", "ones", "others"] (ou K (c5 a_NoPart a_NoPlace a_Twice a_Linked a_Apart))):cM P w K mg base "link_done" 6 ["book", "deed"] (j8 (c5 a_NoPart a_NoPlace a_Twice a_Linked a_Apart) 7):=by
 refine h.mk1 j7 (fun vs H Q E hs=>?_) (fun f cdv A outer s H vs Q E hr hs=>?_)
 ·obtain ⟨v,pd,t,d,L,R,ks,al,e,rfl,_⟩:=hs
  rfl
 obtain ⟨v,pd,t,d,L,R,ks,al,e,rfl,hv,hd,hw,⟨⟨h1,h2,hmo⟩,htx,hsh⟩,hsm,he,k⟩:=hs
 obtain ⟨xs,ys,rfl⟩:∃ xs ys,d=.link xs ys:=by cases d <;> first | exact ⟨_,_,rfl⟩ | cases hw
 refine ⟨_,(ao (aH (i:=2) j7.nd rfl (Or.inl rfl) (aM aO (pv 1) aB (fun _ _=>rfl)))
  (ao (aH (i:=3) j7.nd rfl (Or.inl rfl) (aM aO (pv 1) aB (fun _ _=>rfl)))
  (ao (cL (aW C_check_linkable hr (by decide) rfl bB (aj (pv 0) (aj (pv 2) (aj (pv 3) au)))))
  dB))),?_⟩
 obtain ⟨p,q,hd,hp,hq⟩:=hd
 have at_:∀ {j:Nat} {yy:V},[V.str (Str.ofString "link"),.int t,.ref p,.ref q][j]?=some yy→atI [V.str (Str.ofString "link"),.int t,.ref p,.ref q] (j:Nat)=some yy:=fun h=>aJ h
 have thr:∀ n,dE L R ks al (.link xs ys)=some n→aZ (c5 a_NoPart a_NoPlace a_Twice a_Linked a_Apart n) H E:=fun n hn=>by
  rw [he] at hn
  cases hn
  exact k
 refine ⟨_,rfl,pd,_,_,_,rfl,rfl,SqT.of hd,at_ (j:=2) rfl,?_⟩
 refine ⟨_,rfl,pd,_,_,_,rfl,rfl,SqT.of hd,at_ (j:=3) rfl,?_⟩
 refine ⟨_,rfl,_,rfl,_,rfl,v,p,q,L,R,ks,al,xs,ys,rfl,hp,hq,cP.of hv,⟨h1,h2,hmo⟩,hsm.1,hsm.2.1,hsm.2.2,e,he,k.out⟩
theorem tX:aK ["book", "deed"] ["book", "deed"] (aC iU):=⟨rfl,rfl,rfl,by decide +kernel,rfl,by decide +kernel,by decide +kernel⟩
theorem qO (h:Has K mg "loose_done" iU ["book", "deed"]) (C_relinked:cM P w K mg base "relinked" 1 ["book", "old", "new"] yD) (C_needed_link:cM P w K mg base "needed_link" 4 ["book", "name"] (tL K a_NoPart a_Apart)):cM P w K mg base "loose_done" 5 ["book", "deed"] (j8 (c5 a_NoPart a_NoPlace a_Twice a_Linked a_Apart) 8):=by
 refine h.mk1 tX (fun vs H Q E hs=>?_) (fun f cdv A outer s H vs Q E hr hs=>?_)
 ·obtain ⟨v,pd,t,d,L,R,ks,al,e,rfl,_⟩:=hs
  rfl
 obtain ⟨v,pd,t,d,L,R,ks,al,e,rfl,hv,hd,hw,⟨⟨h1,h2,hmo⟩,htx,hsh⟩,hsm,he,k⟩:=hs
 obtain ⟨x,rfl⟩:∃ x,d=.loose x:=by cases d <;> first | exact ⟨_,rfl⟩ | cases hw
 refine ⟨_,(aF (bx (aW C_relinked hr (by decide) rfl bB (aj (pv 0) (aj (aW C_needed_link hr (by decide) rfl bB (aj (pv 0) (aj (aM aO (pv 1) aB (fun _ _=>rfl)) au))) (aj jh au)))))),?_⟩
 have at_:∀ {j:Nat} {yy:V},[V.str (Str.ofString "loose"),.int t,mkT x][j]?=some yy→atI [V.str (Str.ofString "loose"),.int t,mkT x] (j:Nat)=some yy:=fun h=>aJ h
 have thr:∀ n,dE L R ks al (.loose x)=some n→aZ (c5 a_NoPart a_NoPlace a_Twice a_Linked a_Apart n) H E:=fun n hn=>by
  rw [he] at hn
  cases hn
  exact k
 refine ⟨_,rfl,_,rfl,_,rfl,pd,_,_,_,rfl,rfl,SqT.of hd,at_ (j:=2) rfl,v,L,R,ks,al,x,rfl,cP.of hv,⟨h1,h2,hmo⟩,Nat.le_trans hsm (by decide),fun hb=>?_,fun hb hn=>(thr 4 (by simp only [dE,hb,hn]; rfl)).out,fun hb=>(thr 0 (by simp only [dE,hb]; rfl)).out⟩
 cases hl:cu L ks x with
 | none=>rfl
 | some kk=>simp only [dE,hb,hl] at he; cases he
theorem oK:aK ["book", "deed", "link"] ["book", "deed"] (aC jO):=⟨rfl,rfl,rfl,by decide +kernel,rfl,by decide +kernel,by decide +kernel⟩
theorem tY (h:Has K mg "step_done" jO ["book", "deed"]) (C_needed_link:cM P w K mg base "needed_link" 4 ["book", "name"] (tL K a_NoPart a_Apart)):cM P w K mg base "step_done" 5 ["book", "deed"] (j8 (c5 a_NoPart a_NoPlace a_Twice a_Linked a_Apart) 9):=by
 refine h.mk1 oK (fun vs H Q E hs=>?_) (fun f cdv A outer s H vs Q E hr hs=>?_)
 ·obtain ⟨v,pd,t,d,L,R,ks,al,e,rfl,_⟩:=hs
  rfl
 obtain ⟨v,pd,t,d,L,R,ks,al,e,rfl,hv,hd,hw,⟨⟨h1,h2,hmo⟩,htx,hsh⟩,hsm,he,k⟩:=hs
 obtain ⟨x,rfl⟩:∃ x,d=.step x:=by cases d <;> first | exact ⟨_,rfl⟩ | cases hw
 refine ⟨_,(ao (aH (i:=2) oK.nd rfl (Or.inl rfl) (aW C_needed_link hr (by decide) rfl bB (aj (pv 0) (aj (aM aO (pv 1) aB (fun _ _=>rfl)) au))))
  dB),?_⟩
 have at_:∀ {j:Nat} {yy:V},[V.str (Str.ofString "step"),.int t,mkT x][j]?=some yy→atI [V.str (Str.ofString "step"),.int t,mkT x] (j:Nat)=some yy:=fun h=>aJ h
 have thr:∀ n,dE L R ks al (.step x)=some n→aZ (c5 a_NoPart a_NoPlace a_Twice a_Linked a_Apart n) H E:=fun n hn=>by
  rw [he] at hn
  cases hn
  exact k
 refine ⟨_,rfl,_,rfl,pd,_,_,_,rfl,rfl,SqT.of hd,at_ (j:=2) rfl,v,L,R,ks,al,x,rfl,cP.of hv,⟨h1,h2,hmo⟩,Nat.le_trans hsm (by decide),fun hb=>?_,fun hb hn=>(thr 4 (by simp only [dE,hb,hn]; rfl)).out,fun hb=>(thr 0 (by simp only [dE,hb]; rfl)).out⟩
 cases hl:cu L ks x with
 | none=>rfl
 | some kk=>simp only [dE,hb,hl] at he; cases he
theorem mX:aK ["book", "deed", "name"] ["book", "deed"] (aC iZ):=⟨rfl,rfl,rfl,by decide +kernel,rfl,by decide +kernel,by decide +kernel⟩
theorem rJ (h:Has K mg "alone_done" iZ ["book", "deed"]) (q_Linked:mg "Linked" = some (.ref a_Linked)) (x_Linked:PySem.W.excIn K a_Linked vBm "ValueError.__new__" = true) (C_is_lacking:cM P w K mg base "is_lacking" 4 ["book", "name"] (tE K a_NoPart)):cM P w K mg base "alone_done" 5 ["book", "deed"] (j8 (c5 a_NoPart a_NoPlace a_Twice a_Linked a_Apart) 10):=by
 refine h.mk1 mX (fun vs H Q E hs=>?_) (fun f cdv A outer s H vs Q E hr hs=>?_)
 ·obtain ⟨v,pd,t,d,L,R,ks,al,e,rfl,_⟩:=hs
  rfl
 obtain ⟨v,pd,t,d,L,R,ks,al,e,rfl,hv,hd,hw,⟨⟨h1,h2,hmo⟩,htx,hsh⟩,hsm,he,k⟩:=hs
 obtain ⟨x,rfl⟩:∃ x,d=.alone x:=by cases d <;> first | exact ⟨_,rfl⟩ | cases hw
 refine ⟨_,(ao (aH (i:=2) mX.nd rfl (Or.inl rfl) (aM aO (pv 1) aB (fun _ _=>rfl)))
  (ao (dM (uZ (n6 (aW C_is_lacking hr (by decide) rfl bB (aj (pv 0) (aj (pv 2) au)))))
   (aF (cO rfl c7 rfl q_Linked x_Linked (aj (eE (bC (d7 (pv 2)) (bC aA iz))) au)))
   bN)
  dB)),?_⟩
 have at_:∀ {j:Nat} {yy:V},[V.str (Str.ofString "alone"),.int t,mkT x][j]?=some yy→atI [V.str (Str.ofString "alone"),.int t,mkT x] (j:Nat)=some yy:=fun h=>aJ h
 have thr:∀ n,dE L R ks al (.alone x)=some n→aZ (c5 a_NoPart a_NoPlace a_Twice a_Linked a_Apart n) H E:=fun n hn=>by
  rw [he] at hn
  cases hn
  exact k
 refine ⟨_,rfl,pd,_,_,_,rfl,rfl,SqT.of hd,at_ (j:=2) rfl,?_⟩
 have hx:x.length≤1000:=Nat.le_trans hsm (by decide)
 refine ⟨_,rfl,_,rfl,v,L,R,ks,al,x,rfl,cP.of hv,⟨h1,h2,hmo⟩,hx,fun hb H1 s1=>?_,fun z=>(thr 0 (by simp only [dE,z]; rfl)).out⟩
 refine ⟨_,rfl,?_⟩
 refine fV (fun z=>?_) (fun z=>?_)
 ·have hx1:(⟨x.toArray⟩:Str).length≤sizeLine:=by rw [lV]; exact bF (by omega)
  have hx3:((Str.empty++(⟨x.toArray⟩:Str))++Str.ofString " isn't lacking").length≤sizeLine:=oH hx (by decide +kernel)
  rw [Bool.not_eq_true'] at z
  refine ⟨_,rfl,.inl ⟨_,rfl,hx1,_,rfl,yQ hx,_,rfl,hx3,hx3,?_⟩⟩
  exact ⟨smn 1,fun e' T he hT=>((thr 3 (by simp only [dE,hb,z]; rfl)).up s1).made he hT⟩
 ·exfalso
  have z':jc L ks al x=true:=by simpa using z
  simp only [dE,hb,z'] at he
  cases he
theorem oE:aK ["book", "deed", "name"] ["book", "deed"] (aC jU):=⟨rfl,rfl,rfl,by decide +kernel,rfl,by decide +kernel,by decide +kernel⟩
theorem uG (h:Has K mg "lack_done" jU ["book", "deed"]) (q_Apart:mg "Apart" = some (.ref a_Apart)) (x_Apart:PySem.W.excIn K a_Apart vBm "ValueError.__new__" = true) (C_part_of:cM P w K mg base "part_of" 1 ["book", "name"] (lK K a_NoPart)):cM P w K mg base "lack_done" 2 ["book", "deed"] (j8 (c5 a_NoPart a_NoPlace a_Twice a_Linked a_Apart) 11):=by
 refine h.mk1 oE (fun vs H Q E hs=>?_) (fun f cdv A outer s H vs Q E hr hs=>?_)
 ·obtain ⟨v,pd,t,d,L,R,ks,al,e,rfl,_⟩:=hs
  rfl
 obtain ⟨v,pd,t,d,L,R,ks,al,e,rfl,hv,hd,hw,⟨⟨h1,h2,hmo⟩,htx,hsh⟩,hsm,he,k⟩:=hs
 obtain ⟨x,rfl⟩:∃ x,d=.lack x:=by cases d <;> first | exact ⟨_,rfl⟩ | cases hw
 refine ⟨_,(ao (aH (i:=2) oE.nd rfl (Or.inl rfl) (aM aO (pv 1) aB (fun _ _=>rfl)))
  (ao (cL (aW C_part_of hr (by decide) rfl bB (aj (pv 0) (aj (pv 2) au))))
  (ao (dM (bh ig (pv 2) (aM aO (pv 0) aB (fun _ _=>rfl)) (by with_unfolding_all rfl))
   (aF (cO rfl c7 rfl q_Apart x_Apart (aj (eE (bC (d7 (pv 2)) (bC aA iz))) au)))
   bN)
  dB))),?_⟩
 have at_:∀ {j:Nat} {yy:V},[V.str (Str.ofString "lack"),.int t,mkT x][j]?=some yy→atI [V.str (Str.ofString "lack"),.int t,mkT x] (j:Nat)=some yy:=fun h=>aJ h
 have thr:∀ n,dE L R ks al (.lack x)=some n→aZ (c5 a_NoPart a_NoPlace a_Twice a_Linked a_Apart n) H E:=fun n hn=>by
  rw [he] at hn
  cases hn
  exact k
 refine ⟨_,rfl,pd,_,_,_,rfl,rfl,SqT.of hd,at_ (j:=2) rfl,?_⟩
 have hx:x.length≤1000:=Nat.le_trans hsm (by decide)
 refine ⟨_,rfl,_,rfl,v,L,R,ks,al,x,rfl,cP.of hv,h1,h2,hx,fun p hp u H1 s1 d1=>?_,fun z=>(thr 0 (by simp only [dE,gQ z]; rfl)).out⟩
 obtain ⟨pb,pl,pr,pk,pa,ls,rs',ws,rfl,hpb,hpl,hdl,hpr,hdr,hpk,hdk,hpa⟩:=iV hv
 refine ⟨_,rfl,_,rfl,pb,_,_,_,rfl,rfl,SqT.of (s1 _ _ hpb),aJ (xs:=[V.ref pl,V.ref pr,V.ref pk,V.ref pa]) (j:=3) rfl,pa,_,rfl,.inr (SqT.of (s1 _ _ hpa)),rfl,dY _,_,rfl,?_⟩
 rw [show (if true=true then !inV (mkT x) (al.map mkT) else inV (mkT x) (al.map mkT))=!inV (mkT x) (al.map mkT) from rfl,lB]
 refine fV (fun z=>?_) (fun z=>?_)
 ·have z:x ∉ al:=by simpa using z
  have hx1:(⟨x.toArray⟩:Str).length≤sizeLine:=by rw [lV]; exact bF (by omega)
  have hx3:((Str.empty++(⟨x.toArray⟩:Str))++Str.ofString " isn't alone").length≤sizeLine:=oH hx (by decide +kernel)
  refine ⟨_,rfl,.inl ⟨_,rfl,hx1,_,rfl,yQ hx,_,rfl,hx3,hx3,?_⟩⟩
  exact ⟨smn 1,fun e' T he hT=>((thr 4 (by simp only [dE,dW hp,if_neg z]; rfl)).up s1).made he hT⟩
 ·exfalso
  have z:x∈al:=by simpa using z
  simp only [dE,dW hp,if_pos z] at he
  cases he
end
def nmD:Nat→Str
 | 0=>Str.ofString "put_done"
 | 1=>Str.ofString "take_done"
 | 2=>Str.ofString "part_done"
 | 3=>Str.ofString "join_done"
 | 4=>Str.ofString "move_done"
 | 5=>Str.ofString "change_done"
 | 6=>Str.ofString "word_done"
 | 7=>Str.ofString "link_done"
 | 8=>Str.ofString "loose_done"
 | 9=>Str.ofString "step_done"
 | 10=>Str.ofString "alone_done"
 | _=>Str.ofString "lack_done"
def nY (C:Nat→Addr):Sp:=fun vs H Q E=>mD C vs H Q E∨∃ n,j8 C n vs H Q E
theorem Ds {C:Nat→Addr} {vs:List V} {H:Hp} {Q:VK} {E:XK} (h:mD C vs H Q E):mD C vs H Q (JX E):=by
 obtain ⟨v,pd,t,n,b,x,tx,L,R,ks,al,e,hv,hd,hn,hb,hx,hs,k1,k2⟩:=h
 exact ⟨v,pd,t,n,b,x,tx,L,R,ks,al,e,hv,hd,hn,hb,hx,hs,k1,fun e z=>(k2 e z).out⟩
theorem iK {C:Nat→Addr} {n:Nat} {vs:List V} {H:Hp} {Q:VK} {E:XK} (h:j8 C n vs H Q E):j8 C n vs H Q (JX E):=by
 obtain ⟨v,pd,t,d,L,R,ks,al,e,hv,hd,hw,h1,h2,h3,h4,k⟩:=h
 exact ⟨v,pd,t,d,L,R,ks,al,e,hv,hd,hw,h1,h2,h3,h4,k.out⟩
theorem JT {C:Nat→Addr} {vs:List V} {H:Hp} {Q:VK} {E:XK} (h:j8 C 0 vs H Q E):mD C vs H Q E:=by
 obtain ⟨v,pd,t,d,L,R,ks,al,e,hv,hd,hw,h1,h2,h3,h4,k⟩:=h
 obtain ⟨n,b,x,tx,rfl⟩:∃ n b x tx,d=.put n b x tx:=by cases d <;> first | exact ⟨_,_,_,_,rfl⟩ | cases h1
 have h4:wX L R n b x=some e:=h4
 exact ⟨v,pd,t,n,b,x,tx,L,R,ks,al,hv,hd,hw,h3.1,Nat.le_trans h3.2.1 (by decide),Nat.le_trans h3.2.2 (by decide),h2.sm,fun z=>(by rw [h4] at z; cases z),fun e' z=>by rw [h4] at z; cases z; exact k⟩
theorem Fe {H:Hp} {pd:Addr} {t:Int} {d:Dd} (h:xW H pd t d):∃ (k:Str) (ys:List V),H pd=some (.tup (.str k :: ys))∧KTD.datumAt k iw=some (nmD d.ix):=by
 cases d with
 | put=>exact ⟨_,_,h,by show _=some (Str.ofString "put_done"); decide +kernel⟩
 | take=>exact ⟨_,_,h,by show _=some (Str.ofString "take_done"); decide +kernel⟩
 | part=>exact ⟨_,_,h,by show _=some (Str.ofString "part_done"); decide +kernel⟩
 | join=>exact ⟨_,_,h,by show _=some (Str.ofString "join_done"); decide +kernel⟩
 | move=>exact ⟨_,_,h,by show _=some (Str.ofString "move_done"); decide +kernel⟩
 | change=>exact ⟨_,_,h,by show _=some (Str.ofString "change_done"); decide +kernel⟩
 | word=>exact ⟨_,_,h,by show _=some (Str.ofString "word_done"); decide +kernel⟩
 | link xs ys=>obtain ⟨p,q,h,_⟩:=h; exact ⟨_,_,h,by show _=some (Str.ofString "link_done"); decide +kernel⟩
 | loose=>exact ⟨_,_,h,by show _=some (Str.ofString "loose_done"); decide +kernel⟩
 | step=>exact ⟨_,_,h,by show _=some (Str.ofString "step_done"); decide +kernel⟩
 | alone=>exact ⟨_,_,h,by show _=some (Str.ofString "alone_done"); decide +kernel⟩
 | lack=>exact ⟨_,_,h,by show _=some (Str.ofString "lack_done"); decide +kernel⟩
theorem yK {C:Nat→Addr} {vs:List V} {H:Hp} {Q:VK} {E:XK} (h:nY C vs H Q E):∃ (v:V) (pd:Addr) (k nm:Str) (ys:List V),vs=[v,.ref pd]∧H pd=some (.tup (.str k :: ys))∧KTD.datumAt k iw=some nm∧∃ n,n≤11∧nm=nmD n∧(n=0→mD C vs H Q E)∧(n≠0→j8 C n vs H Q E):=by
 rcases h with h | ⟨n,h⟩
 ·have h0:=h
  obtain ⟨v,pd,t,n,b,x,tx,L,R,ks,al,e,hv,hd,_⟩:=h
  exact ⟨v,pd,Cp,_,_,e,hd,(by decide +kernel:_=some (Str.ofString "put_done")),0,by decide,rfl,fun _=>h0,fun z=>absurd rfl z⟩
 ·have h0:=h
  obtain ⟨v,pd,t,d,L,R,ks,al,e,hv,hb,hd,hw,_⟩:=h
  obtain ⟨k,ys,e1,e2⟩:=Fe hd
  rw [hw] at e2
  refine ⟨v,pd,k,_,ys,hv,e1,e2,n,?_,rfl,fun z=>by subst z; exact JT h0,fun _=>h0⟩
  rw [← hw]
  cases d <;> simp [Dd.ix]
section
variable {P:Program} {w:World} {K:PySem.W.Frag} {mg:Str→Option Value} {base:Heap} {a_NoPart a_NoPlace a_Twice a_Linked a_Apart:Addr}
theorem Ew:aK ["book", "deed", "doer"] ["book", "deed"] (aC BK):=⟨rfl,rfl,rfl,by decide +kernel,rfl,by decide +kernel,by decide +kernel⟩
theorem Iw (h:Has K mg "done" BK ["book", "deed"]) {t_DOERS:Addr} (q_DOERS:mg "DOERS" = some (.ref t_DOERS)) (kt_DOERS:KFT K t_DOERS iw) (hMK:MgK K mg) (C_put_done:cM P w K mg base "put_done" 4 ["book", "deed"] (mD (c5 a_NoPart a_NoPlace a_Twice a_Linked a_Apart))) (C_take_done:cM P w K mg base "take_done" 3 ["book", "deed"] (j8 (c5 a_NoPart a_NoPlace a_Twice a_Linked a_Apart) 1)) (C_part_done:cM P w K mg base "part_done" 4 ["book", "deed"] (j8 (c5 a_NoPart a_NoPlace a_Twice a_Linked a_Apart) 2)) (C_join_done:cM P w K mg base "join_done" 5 ["book", "deed"] (j8 (c5 a_NoPart a_NoPlace a_Twice a_Linked a_Apart) 3)) (C_move_done:cM P w K mg base "move_done" 4 ["book", "deed"] (j8 (c5 a_NoPart a_NoPlace a_Twice a_Linked a_Apart) 4)) (C_change_done:cM P w K mg base "change_done" 4 ["book", "deed"] (j8 (c5 a_NoPart a_NoPlace a_Twice a_Linked a_Apart) 5)) (C_word_done:cM P w K mg base "word_done" 3 ["book", "deed"] (j8 (c5 a_NoPart a_NoPlace a_Twice a_Linked a_Apart) 6)) (C_link_done:cM P w K mg base "link_done" 6 ["book", "deed"] (j8 (c5 a_NoPart a_NoPlace a_Twice a_Linked a_Apart) 7)) (C_loose_done:cM P w K mg base "loose_done" 5 ["book", "deed"] (j8 (c5 a_NoPart a_NoPlace a_Twice a_Linked a_Apart) 8)) (C_step_done:cM P w K mg base "step_done" 5 ["book", "deed"] (j8 (c5 a_NoPart a_NoPlace a_Twice a_Linked a_Apart) 9)) (C_alone_done:cM P w K mg base "alone_done" 5 ["book", "deed"] (j8 (c5 a_NoPart a_NoPlace a_Twice a_Linked a_Apart) 10)) (C_lack_done:cM P w K mg base "lack_done" 2 ["book", "deed"] (j8 (c5 a_NoPart a_NoPlace a_Twice a_Linked a_Apart) 11)):cM P w K mg base "done" 7 ["book", "deed"] (nY (c5 a_NoPart a_NoPlace a_Twice a_Linked a_Apart)):=by
 refine h.mk1 Ew (fun vs H Q E hs=>?_) (fun f cdv A outer s H vs Q E hr hs=>?_)
 ·obtain ⟨v,pd,k,nm,ys,rfl,_⟩:=yK hs
  rfl
 obtain ⟨v,pd,kw,nm,ys,rfl,hd,hk,n,hn,rfl,hp,hc⟩:=yK hs
 refine ⟨_,(ao (aH (i:=2) Ew.nd rfl (Or.inl rfl) (Hw (gW (v:=.ref t_DOERS) rfl q_DOERS rfl) (aM aO (pv 1) aB (fun _ _=>rfl)) (fun _ _=>rfl)))
  (aF (bx (Ga hr (pv 2) bB (aj (pv 0) (aj (pv 1) au)))))),?_⟩
 refine ⟨_,rfl,pd,_,_,_,rfl,rfl,SqT.of hd,aR _ _,t_DOERS,iw,kw,nmD n,rfl,rfl,kt_DOERS,hk,fun f' hf=>?_⟩
 have hm:=hMK _ _ hf
 match n,hn with
 | 0,_ =>
  obtain ⟨f1,q1,F1⟩:=C_put_done.fn
  rw [show mg (Str.ofString "put_done")=_ from hm] at q1
  cases q1
  exact ⟨f',_,_,_,rfl,F1,by decide,_,rfl,_,rfl,Ds (hp rfl)⟩
 | 1,_ =>
  obtain ⟨f1,q1,F1⟩:=C_take_done.fn
  rw [show mg (Str.ofString "take_done")=_ from hm] at q1
  cases q1
  exact ⟨f',_,_,_,rfl,F1,by decide,_,rfl,_,rfl,iK (hc (by decide))⟩
 | 2,_ =>
  obtain ⟨f1,q1,F1⟩:=C_part_done.fn
  rw [show mg (Str.ofString "part_done")=_ from hm] at q1
  cases q1
  exact ⟨f',_,_,_,rfl,F1,by decide,_,rfl,_,rfl,iK (hc (by decide))⟩
 | 3,_ =>
  obtain ⟨f1,q1,F1⟩:=C_join_done.fn
  rw [show mg (Str.ofString "join_done")=_ from hm] at q1
  cases q1
  exact ⟨f',_,_,_,rfl,F1,by decide,_,rfl,_,rfl,iK (hc (by decide))⟩
 | 4,_ =>
  obtain ⟨f1,q1,F1⟩:=C_move_done.fn
  rw [show mg (Str.ofString "move_done")=_ from hm] at q1
  cases q1
  exact ⟨f',_,_,_,rfl,F1,by decide,_,rfl,_,rfl,iK (hc (by decide))⟩
 | 5,_ =>
  obtain ⟨f1,q1,F1⟩:=C_change_done.fn
  rw [show mg (Str.ofString "change_done")=_ from hm] at q1
  cases q1
  exact ⟨f',_,_,_,rfl,F1,by decide,_,rfl,_,rfl,iK (hc (by decide))⟩
 | 6,_ =>
  obtain ⟨f1,q1,F1⟩:=C_word_done.fn
  rw [show mg (Str.ofString "word_done")=_ from hm] at q1
  cases q1
  exact ⟨f',_,_,_,rfl,F1,by decide,_,rfl,_,rfl,iK (hc (by decide))⟩
 | 7,_ =>
  obtain ⟨f1,q1,F1⟩:=C_link_done.fn
  rw [show mg (Str.ofString "link_done")=_ from hm] at q1
  cases q1
  exact ⟨f',_,_,_,rfl,F1,by decide,_,rfl,_,rfl,iK (hc (by decide))⟩
 | 8,_ =>
  obtain ⟨f1,q1,F1⟩:=C_loose_done.fn
  rw [show mg (Str.ofString "loose_done")=_ from hm] at q1
  cases q1
  exact ⟨f',_,_,_,rfl,F1,by decide,_,rfl,_,rfl,iK (hc (by decide))⟩
 | 9,_ =>
  obtain ⟨f1,q1,F1⟩:=C_step_done.fn
  rw [show mg (Str.ofString "step_done")=_ from hm] at q1
  cases q1
  exact ⟨f',_,_,_,rfl,F1,by decide,_,rfl,_,rfl,iK (hc (by decide))⟩
 | 10,_ =>
  obtain ⟨f1,q1,F1⟩:=C_alone_done.fn
  rw [show mg (Str.ofString "alone_done")=_ from hm] at q1
  cases q1
  exact ⟨f',_,_,_,rfl,F1,by decide,_,rfl,_,rfl,iK (hc (by decide))⟩
 | 11,_ =>
  obtain ⟨f1,q1,F1⟩:=C_lack_done.fn
  rw [show mg (Str.ofString "lack_done")=_ from hm] at q1
  cases q1
  exact ⟨f',_,_,_,rfl,F1,by decide,_,rfl,_,rfl,iK (hc (by decide))⟩
end
def gb (lo:Addr) (l s m:Int):List (Key × V):=[(Sum.inr "own",.ref lo),(Sum.inr "left",.int l),(Sum.inr "seed",.int s),(Sum.inr "many",.int m)]
theorem kn1:¬ ((Sum.inr (Str.ofString "own"):Key)=Sum.inr (Str.ofString "left")):=by decide +kernel
theorem kn2:¬ ((Sum.inr (Str.ofString "own"):Key)=Sum.inr (Str.ofString "seed")):=by decide +kernel
theorem kn3:¬ ((Sum.inr (Str.ofString "own"):Key)=Sum.inr (Str.ofString "many")):=by decide +kernel
theorem kn4:¬ ((Sum.inr (Str.ofString "left"):Key)=Sum.inr (Str.ofString "seed")):=by decide +kernel
theorem kn5:¬ ((Sum.inr (Str.ofString "left"):Key)=Sum.inr (Str.ofString "many")):=by decide +kernel
theorem kn6:¬ ((Sum.inr (Str.ofString "seed"):Key)=Sum.inr (Str.ofString "many")):=by decide +kernel
theorem sn1:¬ (Str.ofString "own" = Str.ofString "left"):=by decide +kernel
theorem sm1:¬ (Str.ofString "left" = Str.ofString "own"):=by decide +kernel
theorem sn2:¬ (Str.ofString "own" = Str.ofString "seed"):=by decide +kernel
theorem sm2:¬ (Str.ofString "seed" = Str.ofString "own"):=by decide +kernel
theorem sn3:¬ (Str.ofString "own" = Str.ofString "many"):=by decide +kernel
theorem sm3:¬ (Str.ofString "many" = Str.ofString "own"):=by decide +kernel
theorem sn4:¬ (Str.ofString "left" = Str.ofString "seed"):=by decide +kernel
theorem sm4:¬ (Str.ofString "seed" = Str.ofString "left"):=by decide +kernel
theorem sn5:¬ (Str.ofString "left" = Str.ofString "many"):=by decide +kernel
theorem sm5:¬ (Str.ofString "many" = Str.ofString "left"):=by decide +kernel
theorem sn6:¬ (Str.ofString "seed" = Str.ofString "many"):=by decide +kernel
theorem sm6:¬ (Str.ofString "many" = Str.ofString "seed"):=by decide +kernel
theorem Lq (lo:Addr) (l s m:Int):dU (gb lo l s m) (Sum.inr "own" : Key)=some (.ref lo):=cj rfl
theorem v_left (lo:Addr) (l s m:Int):dU (gb lo l s m) (Sum.inr "left" : Key)=some (.int l):=(bY kn1).trans (cj rfl)
theorem Jo (lo:Addr) (l s m:Int):dU (gb lo l s m) (Sum.inr "seed" : Key)=some (.int s):=(bY kn2).trans ((bY kn4).trans (cj rfl))
theorem Jt (lo:Addr) (l s m:Int):dU (gb lo l s m) (Sum.inr "many" : Key)=some (.int m):=(bY kn3).trans ((bY kn5).trans ((bY kn6).trans (cj rfl)))
theorem JQ (lo:Addr) (l s m i:Int):putK (gb lo l s m) (Sum.inr "left" : Key) (.int i)=gb lo i s m:=by
 unfold putK gb
 simp [sn1,sm1,sn2,sm2,sn3,sm3,sn4,sm4,sn5,sm5,sn6,sm6]
theorem Io (lo:Addr) (l s m i:Int):putK (gb lo l s m) (Sum.inr "seed" : Key) (.int i)=gb lo l i m:=by
 unfold putK gb
 simp [sn1,sm1,sn2,sm2,sn3,sm3,sn4,sm4,sn5,sm5,sn6,sm6]
theorem J2 (lo:Addr) (l s m i:Int):putK (gb lo l s m) (Sum.inr "many" : Key) (.int i)=gb lo l s i:=by
 unfold putK gb
 simp [sn1,sm1,sn2,sm2,sn3,sm3,sn4,sm4,sn5,sm5,sn6,sm6]
theorem xu (lo:Addr) (l s m:Int):gJ [] (gb lo l s m)=gb lo l s m:=by
 unfold gb
 simp [gJ,putK,sn1,sm1,sn2,sm2,sn3,sm3,sn4,sm4,sn5,sm5,sn6,sm6]
def bQ (d lo:Addr) (H:Hp):Prop:=∃ (cs:List Int) (l s m:Int),H d=some (.dK (gb lo l s m))∧H lo=some (.lst (cs.map V.int))∧0≤l∧∀ c∈cs,0≤c
def Old (d lo:Addr) (H H':Hp):Prop:=∀ c o,H c=some o→c≠d→c≠lo→H' c=some o
def Jf (K:PySem.W.Frag):Sp:=fun vs H Q _=>∃ (a:Addr) (ns:List Int),vs=[.ref a]∧SqL K H a (ns.map V.int)∧ns.length≤63∧∀ (d lo:Addr) (H':Hp),Same H H'→bQ d lo H'→Q (.ref d) H'
def jg:Sp:=fun vs H Q _=>∃ (d lo:Addr) (m:Int),vs=[.ref d,.int m]∧bQ d lo H∧0 < m∧m < 2 ^ 63∧∀ (r:Int) (H':Hp),0≤r→r < m→bQ d lo H'→Old d lo H H'→Q (.int r) H'
theorem Ji {H:Hp} {d lo:Addr} {l s m:Int} (h:H d=some (.dK (gb lo l s m))):nG H d (.str "own") (some (.ref lo)):=by
 have:=nG.k (k:=(Sum.inr "own" : Key)) h
 rwa [Lq] at this
theorem jj {H:Hp} {d lo:Addr} {l s m:Int} (h:H d=some (.dK (gb lo l s m))):nG H d (.str "left") (some (.int l)):=by
 have:=nG.k (k:=(Sum.inr "left" : Key)) h
 rwa [v_left] at this
theorem oV {H:Hp} {d lo:Addr} {l s m:Int} (h:H d=some (.dK (gb lo l s m))):nG H d (.str "seed") (some (.int s)):=by
 have:=nG.k (k:=(Sum.inr "seed" : Key)) h
 rwa [Jo] at this
theorem nR {H:Hp} {d lo:Addr} {l s m:Int} (h:H d=some (.dK (gb lo l s m))):nG H d (.str "many") (some (.int m)):=by
 have:=nG.k (k:=(Sum.inr "many" : Key)) h
 rwa [Jt] at this
theorem vB {H:Hp} {d lo:Addr} {l s m:Int} (i:Int) (h:H d=some (.dK (gb lo l s m))):uJ H d (.str "left") (.int i) (upd H d (.dK (gb lo i s m))):=by
 have:=uJ.k (k:=(Sum.inr "left" : Key)) (v:=.int i) h (aN (by show 4≤1000; decide))
 rwa [JQ] at this
theorem z8 {H:Hp} {d lo:Addr} {l s m:Int} (i:Int) (h:H d=some (.dK (gb lo l s m))):uJ H d (.str "seed") (.int i) (upd H d (.dK (gb lo l i m))):=by
 have:=uJ.k (k:=(Sum.inr "seed" : Key)) (v:=.int i) h (aN (by show 4≤1000; decide))
 rwa [Io] at this
theorem Ab {H:Hp} {d lo:Addr} {l s m:Int} (i:Int) (h:H d=some (.dK (gb lo l s m))):uJ H d (.str "many") (.int i) (upd H d (.dK (gb lo l s i))):=by
 have:=uJ.k (k:=(Sum.inr "many" : Key)) (v:=.int i) h (aN (by show 4≤1000; decide))
 rwa [J2] at this
theorem Old.upd_d {d lo:Addr} {H H':Hp} {o:HO} (h:Old d lo H H'):Old d lo H (upd H' d o):=fun c o' e h1 h2=>by
 rw [aG h1]
 exact h c o' e h1 h2
theorem Old.upd_lo {d lo:Addr} {H H':Hp} {o:HO} (h:Old d lo H H'):Old d lo H (upd H' lo o):=fun c o' e h1 h2=>by
 rw [aG h2]
 exact h c o' e h1 h2
theorem Old.new {d lo b:Addr} {H H':Hp} {o:HO} (h:Old d lo H H') (hb:H' b=none):Old d lo H (upd H' b o):=fun c o' e h1 h2=>aq hb o _ _ (h c o' e h1 h2)
section
variable {P:Program} {w:World} {K:PySem.W.Frag} {mg:Str→Option Value} {base:Heap}
theorem yx:aK ["_law_script", "_law_seed", "_law_own", "_law_cell"] ["_law_script"] (aC Kh):=⟨rfl,rfl,rfl,by decide +kernel,rfl,by decide +kernel,by decide +kernel⟩
theorem Li (h:Has K mg "_law_pot" Kh ["_law_script"])  : Cal P w K mg base "_law_pot" 1 ["_law_script"] (Jf K):=by
 refine h.mk' yx (fun vs H Q E hs=>?_) (fun f cdv A outer s H vs Q E hr hs=>?_)
 ·obtain ⟨a,ns,rfl,_⟩:=hs
  rfl
 obtain ⟨a,ns,rfl,hS,h63,k⟩:=hs
 refine ⟨_,(ao (aH (i:=1) yx.nd rfl (Or.inl rfl) aB)
  (ao (aH (i:=2) yx.nd rfl (Or.inl rfl) (aX au))
  (ao (fQ PassesOwn.never rfl (jq (pv 0)) (aU (i:=3) yx.nd rfl (Or.inl rfl))
   (ao (aH (i:=1) yx.nd rfl (Or.inl rfl) (aV gY (aV fG (aV fG (aV uW (pv 1) aB) (aV gY (pv 3) aB)) aB) aB))
  (aF (dM (bh J5 (pv 3) (aV DX aB aB) (bZ _))
   (aF (cL (gD PySem.F.plainAttrs_list PySem.F.slot_list_append PySem.F.type_list_append cG (pv 2) (aj (pv 3) au))))
   bN))))
  (aF (bx (uH (cV aA (pv 2) (cV aA aB (cV aA (pv 1) (cV aA aB uc)))) rfl rfl (by simp) (by decide +kernel))))))),?_⟩
 refine ⟨smn 0,fun lo hlo=>?_⟩
 have hloN:H lo=none:=hlo
 refine ⟨_,rfl,a,rfl,⟨_,(aq hlo (.lst [])).seq hS⟩,?_⟩
 refine lH (K:=K) (a:=a) (xs:=ns.map V.int) (fun i σ H2=>∃ (s:Int) (cs:List Int) (v3:Option V),σ=[some (.ref a),some (.int s),some (.ref lo),v3]∧H2=upd H lo (.lst (cs.map V.int))∧(∀ c∈cs,0≤c)∧cs.length≤i) ⟨11,[],none,rfl,rfl,(fun c h=>by cases h),Nat.le_refl _⟩ ?_ ?_ ?_
 ·rintro i σ H2 _ ⟨s,cs,v3,rfl,rfl,_,_⟩
  exact (aq hlo _).seq hS
 ·rintro i y σ H2 hi ⟨s,cs,v3,rfl,rfl,hc,hl⟩
  obtain ⟨c,rfl⟩:=wM hi
  have hi63:i < 63:=by
   have:=(List.getElem?_eq_some_iff.mp hi).1
   rw [List.length_map] at this
   omega
  refine ⟨_,rfl,_,_,rfl,rfl,.inr ⟨by decide,by decide⟩,_,rfl,_,_,rfl,rfl,(by show (0:Int) < 2147483629; decide),_,_,rfl,rfl,_,_,rfl,rfl,_,_,rfl,rfl,(by show (0:Int) < 2305843009213693951; decide),?_⟩
  refine ⟨_,rfl,_,_,rfl,rfl,⟨by decide,by decide,by decide⟩,_,_,rfl,rfl,_,rfl,?_⟩
  refine fV (fun z=>?_) (fun z=>?_)
  ·have hc0:0≤c:=by
    have:=of_decide_eq_true z
    have e:(10:Int) ^ (18:Int).toNat=1000000000000000000:=by decide
    rw [e] at this
    omega
   refine ⟨_,rfl,.inl ⟨rfl,_,SqL.of ak⟩,_,rfl,lo,_,_,rfl,rfl,ak,by rw [List.length_map]; exact aN (by omega),_,cs++[c],_,rfl,?_,?_,?_⟩
   ·rw [gM,List.map_append]
    rfl
   ·intro c' h'
    rcases List.mem_append.mp h' with z | z
    ·exact hc c' z
    ·rw [List.mem_singleton.mp z]
     exact hc0
   ·rw [List.length_append,List.length_singleton]
    omega
  ·exact ⟨_,cs,_,rfl,rfl,hc,by omega⟩
 ·rintro σ H2 ⟨s,cs,v3,rfl,rfl,hc,hl⟩
  refine fun d hd=>⟨_,rfl,_,rfl,ak,gb lo 0 s 0,rfl,(by show 4≤15; decide),?_⟩
  have ndl:lo≠d:=aD ak hd
  rw [xu,gM]
  exact k d lo _ ((aq hlo _).trans (aq hd _)) ⟨cs,0,s,0,ak,(aG ndl).trans ak,Int.le_refl _,hc⟩
theorem zH:aK ["_law_pot_here", "_law_many", "_law_drawn", "_law_mixed"] ["_law_pot_here", "_law_many"] (aC Cz):=⟨rfl,rfl,rfl,by decide +kernel,rfl,by decide +kernel,by decide +kernel⟩
theorem Ig (h:Has K mg "_law_next" Cz ["_law_pot_here", "_law_many"])  : Cal P w K mg base "_law_next" 1 ["_law_pot_here", "_law_many"] jg:=by
 refine h.mk' zH (fun vs H Q E hs=>?_) (fun f cdv A outer s H vs Q E hr hs=>?_)
 ·obtain ⟨d,lo,m,rfl,_⟩:=hs
  rfl
 obtain ⟨d,lo,m,rfl,⟨cs,l,sd,mn,ed,elo,hl,hcs⟩,m0,m1,k⟩:=hs
 refine ⟨_,(ao (dM (PW.pt (Ej (bh nM (cX (dI hr) (pv 0) aA (fun _ _=>rfl)) aB (bZ _)) (yM (bh (Ka hr.units0) (cX (dI hr) (pv 0) aA (fun _ _=>rfl)) (aX au) (bZ _)))))
   (aF (fK (dI hr) (pv 0) aA (gD PySem.F.plainAttrs_list PySem.F.slot_list_pop PySem.F.type_list_pop vD (cX (dI hr) (pv 0) aA (fun _ _=>rfl)) (aj aB au)) rfl))
   bN)
  (ao (dM (bh JN (cX (dI hr) (pv 0) aA (fun _ _=>rfl)) aB (bZ _))
   (ao (aH (i:=2) zH.nd rfl (Or.inl rfl) (aV gY (cX (dI hr) (pv 0) aA (fun _ _=>rfl)) (pv 1)))
  (ao (fK (dI hr) (pv 0) aA (aV jL (cX (dI hr) (pv 0) aA (fun _ _=>rfl)) (pv 1)) rfl)
  (aF (bx (pv 2)))))
   bN)
  (ao (fK (dI hr) (pv 0) aA (aV fG (cX (dI hr) (pv 0) aA (fun _ _=>rfl)) aB) rfl)
  (ao (aH (i:=3) zH.nd rfl (Or.inl rfl) (aV gY (aV uW (aV fG (cX (dI hr) (pv 0) aA (fun _ _=>rfl)) (aV uW (cX (dI hr) (pv 0) aA (fun _ _=>rfl)) aB)) aB) aB))
  (ao (fK (dI hr) (pv 0) aA (aV gY (aV uW (pv 3) (aV fG (aV gY (pv 3) aB) aB)) aB) rfl)
  (aF (bx (aV gY (aV jL (cX (dI hr) (pv 0) aA (fun _ _=>rfl)) aB) (pv 1))))))))),?_⟩
 have ndl:d≠lo:=su ed elo (by intro z; cases z)
 have old0:Old d lo H H:=fun c o e _ _=>e
 refine ⟨_,rfl,d,_,rfl,jj ed,rfl,_,rfl,?_⟩
 refine fV (fun z0=>?_) (fun z0=>?_)
 ·have hl0:l=0:=by
   have:=of_decide_eq_true z0
   injection this
  subst hl0
  refine ⟨_,rfl,d,_,rfl,Ji ed,smn 0,fun b hb=>?_⟩
  have nbd:d≠b:=aD ed hb
  have nbl:lo≠b:=aD elo hb
  have s2:=aq hb (.lst [])
  refine ⟨lo,b,_,rfl,rfl,s2 _ _ elo,ak,_,rfl,?_⟩
  have ed2:=s2 _ _ ed
  have elo2:=s2 _ _ elo
  have old2:Old d lo H (upd H b (.lst [])):=Old.new old0 hb
  generalize upd H b (.lst [])=H2 at ed2 elo2 old2
  cases cs with
  | nil =>
   refine LC ?_
   refine ⟨_,rfl,d,_,rfl,jj ed2,_,_,rfl,rfl,_,rfl,?_⟩
   refine fV (fun z=>?_) (fun z=>?_)
   ·refine ⟨_,rfl,d,_,rfl,jj ed2,_,rfl,_,_,rfl,rfl,m0,?_⟩
    refine ⟨_,rfl,d,_,rfl,jj ed2,_,rfl,_,_,rfl,rfl,⟨m0,by omega⟩,_,rfl,d,_,rfl,vB _ ed2,?_⟩
    refine ⟨_,rfl,k _ _ (Int.emod_nonneg _ (by omega)) (Int.emod_lt_of_pos _ m0) ⟨[],_,sd,mn,ak,(aG ndl.symm).trans elo2,Int.ediv_nonneg (Int.le_refl 0) (by omega),hcs⟩ (Old.upd_d old2)⟩
   ·refine ⟨_,rfl,d,_,rfl,nR ed2,_,_,rfl,rfl,_,rfl,d,_,rfl,Ab _ ed2,?_⟩
    have ed2:(upd H2 d (.dK (gb lo 0 sd (mn+1)))) d=some (.dK (gb lo 0 sd (mn+1))):=ak
    refine ⟨_,rfl,d,_,rfl,oV ed2,_,rfl,d,_,rfl,nR ed2,_,_,rfl,rfl,.inr ⟨by decide,by decide⟩,_,_,rfl,rfl,_,_,rfl,rfl,.inr ⟨by decide,by decide⟩,_,_,rfl,rfl,(by show (0:Int) < 2305843009213693951; decide),?_⟩
    have q0:0≤(sd+(mn+1) * 7919) * 48271 % 2305843009213693951:=Int.emod_nonneg _ (by decide)
    have q1:(sd+(mn+1) * 7919) * 48271 % 2305843009213693951 < 2305843009213693951:=Int.emod_lt_of_pos _ (by decide)
    refine ⟨_,rfl,_,rfl,_,_,rfl,rfl,(by show (0:Int) < 1009; decide),_,_,rfl,rfl,_,_,rfl,rfl,.inl ⟨by omega,by omega⟩,_,_,rfl,rfl,(by show (0:Int) < 2305843009213693951; decide),_,rfl,d,_,rfl,z8 _ ed2,?_⟩
    refine ⟨_,rfl,d,_,rfl,oV ak,_,_,rfl,rfl,⟨by decide,by decide⟩,_,rfl,_,_,rfl,rfl,m0,?_⟩
    exact k _ _ (Int.emod_nonneg _ (by omega)) (Int.emod_lt_of_pos _ m0) ⟨[],0,_,_,ak,(aG ndl.symm).trans ((aG ndl.symm).trans elo2),(Int.le_refl 0),hcs⟩ (Old.upd_d (Old.upd_d old2))
  | cons c cs =>
   refine rR ?_
   refine ⟨_,rfl,d,_,rfl,Ji ed2,.inl ⟨rfl,_,SqL.of elo2⟩,lo,_,0,0,.int c,rfl,rfl,elo2,by decide,by decide,by simp [seqIndex?],rfl,?_⟩
   have eloP:(upd H2 lo (.lst (((c :: cs).map V.int).eraseIdx 0))) lo=some (.lst (cs.map V.int)):=ak
   have edP:(upd H2 lo (.lst (((c :: cs).map V.int).eraseIdx 0))) d=some (.dK (gb lo 0 sd mn)):=(aG ndl).trans ed2
   have oldP:Old d lo H (upd H2 lo (.lst (((c :: cs).map V.int).eraseIdx 0))):=Old.upd_lo old2
   have hc0:0≤c:=hcs c List.mem_cons_self
   have hcs':∀ x∈cs,0≤x:=fun x hx=>hcs x (List.mem_cons_of_mem _ hx)
   refine ⟨_,rfl,d,_,rfl,vB c edP,?_⟩
   have ed3:(upd (upd H2 lo (.lst (((c :: cs).map V.int).eraseIdx 0))) d (.dK (gb lo c sd mn))) d=some (.dK (gb lo c sd mn)):=ak
   have elo3:=(aG (o:=HO.dK (gb lo c sd mn)) ndl.symm).trans eloP
   have old3:=Old.upd_d (o:=HO.dK (gb lo c sd mn)) oldP
   generalize upd (upd H2 lo (.lst (((c :: cs).map V.int).eraseIdx 0))) d (.dK (gb lo c sd mn))=H3 at ed3 elo3 old3
   refine ⟨_,rfl,d,_,rfl,jj ed3,_,_,rfl,rfl,_,rfl,?_⟩
   refine fV (fun z=>?_) (fun z=>?_)
   ·refine ⟨_,rfl,d,_,rfl,jj ed3,_,rfl,_,_,rfl,rfl,m0,?_⟩
    refine ⟨_,rfl,d,_,rfl,jj ed3,_,rfl,_,_,rfl,rfl,⟨m0,by omega⟩,_,rfl,d,_,rfl,vB _ ed3,?_⟩
    refine ⟨_,rfl,k _ _ (Int.emod_nonneg _ (by omega)) (Int.emod_lt_of_pos _ m0) ⟨cs,_,sd,mn,ak,(aG ndl.symm).trans elo3,Int.ediv_nonneg hc0 (by omega),hcs'⟩ (Old.upd_d old3)⟩
   ·refine ⟨_,rfl,d,_,rfl,nR ed3,_,_,rfl,rfl,_,rfl,d,_,rfl,Ab _ ed3,?_⟩
    have ed2:(upd H3 d (.dK (gb lo c sd (mn+1)))) d=some (.dK (gb lo c sd (mn+1))):=ak
    refine ⟨_,rfl,d,_,rfl,oV ed2,_,rfl,d,_,rfl,nR ed2,_,_,rfl,rfl,.inr ⟨by decide,by decide⟩,_,_,rfl,rfl,_,_,rfl,rfl,.inr ⟨by decide,by decide⟩,_,_,rfl,rfl,(by show (0:Int) < 2305843009213693951; decide),?_⟩
    have q0:0≤(sd+(mn+1) * 7919) * 48271 % 2305843009213693951:=Int.emod_nonneg _ (by decide)
    have q1:(sd+(mn+1) * 7919) * 48271 % 2305843009213693951 < 2305843009213693951:=Int.emod_lt_of_pos _ (by decide)
    refine ⟨_,rfl,_,rfl,_,_,rfl,rfl,(by show (0:Int) < 1009; decide),_,_,rfl,rfl,_,_,rfl,rfl,.inl ⟨by omega,by omega⟩,_,_,rfl,rfl,(by show (0:Int) < 2305843009213693951; decide),_,rfl,d,_,rfl,z8 _ ed2,?_⟩
    refine ⟨_,rfl,d,_,rfl,oV ak,_,_,rfl,rfl,⟨by decide,by decide⟩,_,rfl,_,_,rfl,rfl,m0,?_⟩
    exact k _ _ (Int.emod_nonneg _ (by omega)) (Int.emod_lt_of_pos _ m0) ⟨cs,c,_,_,ak,(aG ndl.symm).trans ((aG ndl.symm).trans elo3),hc0,hcs'⟩ (Old.upd_d (Old.upd_d old3))
 ·refine LC ?_
  refine ⟨_,rfl,d,_,rfl,jj ed,_,_,rfl,rfl,_,rfl,?_⟩
  refine fV (fun z=>?_) (fun z=>?_)
  ·refine ⟨_,rfl,d,_,rfl,jj ed,_,rfl,_,_,rfl,rfl,m0,?_⟩
   refine ⟨_,rfl,d,_,rfl,jj ed,_,rfl,_,_,rfl,rfl,⟨m0,by omega⟩,_,rfl,d,_,rfl,vB _ ed,?_⟩
   refine ⟨_,rfl,k _ _ (Int.emod_nonneg _ (by omega)) (Int.emod_lt_of_pos _ m0) ⟨cs,_,sd,mn,ak,(aG ndl.symm).trans elo,Int.ediv_nonneg hl (by omega),hcs⟩ (Old.upd_d old0)⟩
  ·refine ⟨_,rfl,d,_,rfl,nR ed,_,_,rfl,rfl,_,rfl,d,_,rfl,Ab _ ed,?_⟩
   have ed2:(upd H d (.dK (gb lo l sd (mn+1)))) d=some (.dK (gb lo l sd (mn+1))):=ak
   refine ⟨_,rfl,d,_,rfl,oV ed2,_,rfl,d,_,rfl,nR ed2,_,_,rfl,rfl,.inr ⟨by decide,by decide⟩,_,_,rfl,rfl,_,_,rfl,rfl,.inr ⟨by decide,by decide⟩,_,_,rfl,rfl,(by show (0:Int) < 2305843009213693951; decide),?_⟩
   have q0:0≤(sd+(mn+1) * 7919) * 48271 % 2305843009213693951:=Int.emod_nonneg _ (by decide)
   have q1:(sd+(mn+1) * 7919) * 48271 % 2305843009213693951 < 2305843009213693951:=Int.emod_lt_of_pos _ (by decide)
   refine ⟨_,rfl,_,rfl,_,_,rfl,rfl,(by show (0:Int) < 1009; decide),_,_,rfl,rfl,_,_,rfl,rfl,.inl ⟨by omega,by omega⟩,_,_,rfl,rfl,(by show (0:Int) < 2305843009213693951; decide),_,rfl,d,_,rfl,z8 _ ed2,?_⟩
   refine ⟨_,rfl,d,_,rfl,oV ak,_,_,rfl,rfl,⟨by decide,by decide⟩,_,rfl,_,_,rfl,rfl,m0,?_⟩
   exact k _ _ (Int.emod_nonneg _ (by omega)) (Int.emod_lt_of_pos _ m0) ⟨cs,l,_,_,ak,(aG ndl.symm).trans ((aG ndl.symm).trans elo),hl,hcs⟩ (Old.upd_d (Old.upd_d old0))
end
section
variable {P:Program} {w:World} {K:PySem.W.Frag} {mg:Str→Option Value} {base:Heap}
theorem qex {X:Cx} {st:List Stmt} {D:Ends} {σ:L2.St} {H:Hp} (h:∃ t,QSs X st t∧t D σ H):∃ t,PSs X st t∧t D σ H:=h.elim fun t h=>⟨t,h.1.h,h.2⟩
theorem bQ.same {d lo:Addr} {H H':Hp} (h:bQ d lo H) (s:Same H H'):bQ d lo H':=by
 obtain ⟨cs,l,sd,m,e1,e2,r⟩:=h
 exact ⟨cs,l,sd,m,s _ _ e1,s _ _ e2,r⟩
theorem bQ.new {d lo b:Addr} {H:Hp} {o:HO} (h:bQ d lo H) (hb:H b=none):bQ d lo (upd H b o):=h.same (aq hb o)
theorem bQ.ne {d lo b:Addr} {H:Hp} (h:bQ d lo H) (hb:H b=none):b≠d∧b≠lo:=by
 obtain ⟨cs,l,sd,m,e1,e2,r⟩:=h
 exact ⟨(aD e1 hb).symm,(aD e2 hb).symm⟩
theorem bQ.upd {d lo b:Addr} {H:Hp} {o:HO} (h:bQ d lo H) (h1:b≠d) (h2:b≠lo):bQ d lo (upd H b o):=by
 obtain ⟨cs,l,sd,m,e1,e2,r⟩:=h
 exact ⟨cs,l,sd,m,(aG h1.symm).trans e1,(aG h2.symm).trans e2,r⟩
theorem Old.trans {d lo:Addr} {H H1 H2:Hp} (a:Old d lo H H1) (b:Old d lo H1 H2):Old d lo H H2:=fun c o e h1 h2=>b c o (a c o e h1 h2) h1 h2
theorem Old.of {d lo:Addr} {H H1:Hp} (a:Same H H1):Old d lo H H1:=fun c o e _ _=>a c o e
theorem Old.free {d lo b:Addr} {H H1:Hp} {o:HO} (a:Old d lo H H1) (hb:H b=none):Old d lo H (L2.upd H1 b o):=fun c o' e h1 h2=>by
 rw [aG (aD e hb)]
 exact a c o' e h1 h2
theorem bI {d lo:Addr} {H H':Hp} (hp:bQ d lo H) (o:Old d lo H H'):∀ (b:Addr) (vs:List V),H b=some (.tup vs)→H' b=some (.tup vs):=fun b vs e=>by
 obtain ⟨cs,l,sd,m,e1,e2,r⟩:=hp
 exact o b _ e (su e e1 (by intro z; cases z)) (su e e2 (by intro z; cases z))
theorem pB {σ:L2.St} {H:Hp} {i:Nat} {d lo:Addr} {m:Int} {Q:VK} (hσ:σ[i]?=some (some (.ref d))) (hp:bQ d lo H) (h0:0 < m) (h1:m < 2 ^ 63) (k:∀ (r:Int) (H':Hp),0≤r→r < m→bQ d lo H'→Old d lo H H'→Q (.int r) H') :
  xJ jg [] E0 (uy (xr i) (uy (tC (.int m)) GP)) σ H Q:=⟨_,hσ,d,lo,m,rfl,hp,h0,h1,k⟩
theorem Gy {k n:Nat} (h:k < n):seqIndex? ((k:Nat):Int) n=some k:=by
 unfold seqIndex?
 simp
 omega
theorem sH {α β:Type} (f:α→β):∀ (xs:List α) (i:Nat),(xs.map f).eraseIdx i=(xs.eraseIdx i).map f
 | [],_=>rfl
 | _ :: _,0=>rfl
 | x :: xs,i+1=>by
  show f x :: (xs.map f).eraseIdx i=f x :: (xs.eraseIdx i).map f
  rw [sH f xs i]
theorem Jb {K:PySem.W.Frag} {H:Hp} {l:Addr} {a b r:Int} {Q:VK} (h:H l=some (.lst [.int a,.int b])) (k:∀ v:Int,v=a∨v=b→Q (.int v) H):Lf K (.ref l) (.int (if decide (V.int r=V.int 0)=true then 1 else 0)) H Q:=by
 by_cases hr:decide (V.int r=V.int 0)=true
 ·rw [if_pos hr]
  exact ⟨l,_,_,.int b,rfl,rfl,SqL.of h,aJ (xs:=[V.int a,V.int b]) (j:=1) rfl,k b (.inr rfl)⟩
 ·rw [if_neg hr]
  exact ⟨l,_,_,.int a,rfl,rfl,SqL.of h,aR _ _,k a (.inl rfl)⟩
theorem good_str {x y:Str} (hx:∀ c∈x.cps.toList,mR c) (hy:∀ c∈y.cps.toList,mR c):∀ c∈(x++y).cps.toList,mR c:=fun c hc=>by
 have e:(x++y).cps.toList=x.cps.toList++y.cps.toList:=by
  show (x.cps++y.cps).toList=_
  simp
 rw [e] at hc
 rcases List.mem_append.mp hc with z | z
 ·exact hx c z
 ·exact hy c z
instance (c:Nat):Decidable (mR c):=by unfold mR; infer_instance
end
def yZ:Sp:=fun vs H Q _=>∃ (d lo:Addr) (n:Int),vs=[.ref d,.int n]∧bQ d lo H∧0≤n∧n≤12∧∀ (r:Int) (H':Hp),0≤r→r≤12→bQ d lo H'→Old d lo H H'→Q (.int r) H'
def mz:Sp:=fun vs H Q _=>∃ (d lo:Addr) (n:Nat),vs=[.ref d,.int (n:Nat)]∧bQ d lo H∧n≤13∧∀ (q:Addr) (ms:List Int) (H':Hp),H' q=some (.tup (ms.map V.int))→Ce ms→ms.length=n→bQ d lo H'→Old d lo H H'→Q (.ref q) H'
def Ke (d lo l:Addr) (H H':Hp):Prop:=∀ c o,H c=some o→c≠d→c≠lo→c≠l→H' c=some o
def zj:Sp:=fun vs H Q _=>∃ (d lo l:Addr) (xs:Nms),vs=[.ref d,.ref l]∧bQ d lo H∧H l=some (.lst (xs.map mkT))∧l≠d∧l≠lo∧xs≠[]∧xs.length≤1000∧∀ (i:Nat) (h:i < xs.length) (H':Hp),H' l=some (.lst ((xs.eraseIdx i).map mkT))→bQ d lo H'→Ke d lo l H H'→Q (mkT xs[i]) H'
section
variable {P:Program} {w:World} {K:PySem.W.Frag} {mg:Str→Option Value} {base:Heap}
theorem Fv:aK ["_law_pot_here", "_law_most"] ["_law_pot_here", "_law_most"] (aC vL):=⟨rfl,rfl,rfl,by decide +kernel,rfl,by decide +kernel,by decide +kernel⟩
theorem GD (h:Has K mg "_law_count" vL ["_law_pot_here", "_law_most"]) (C_next:Cal P w K mg base "_law_next" 1 ["_law_pot_here", "_law_many"] jg) (m_int:mg "int" = none):Cal P w K mg base "_law_count" 2 ["_law_pot_here", "_law_most"] yZ:=by
 refine h.mk' Fv (fun vs H Q E hs=>?_) (fun f cdv A outer s H vs Q E hr hs=>?_)
 ·obtain ⟨d,lo,n,rfl,_⟩:=hs
  rfl
 obtain ⟨d,lo,n,rfl,hp,h0,h1,k⟩:=hs
 refine ⟨_,(aF (bx (aY C_next hr (by decide) rfl (aj (pv 0) (aj (aV fG (aM cC (aX (aj (pv 1) (aj aB au))) (cD m8 rfl m_int boot_int (aj (fJ nM (aY C_next hr (by decide) rfl (aj (pv 0) (aj aB au))) aB (bZ _)) au)) (fun _ _=>rfl)) aB) au))))),?_⟩
 refine ⟨_,rfl,_,rfl,smn 2,fun l2 hl2=>?_⟩
 have hp2:=hp.new (o:=HO.lst [.int n,.int 12]) hl2
 obtain ⟨n2d,n2l⟩:=hp.ne hl2
 refine pB (σ:=[some (.ref d),some (.int n)]) (i:=0) (m:=8) rfl hp2 (by decide) (by decide) fun r H2 r0 r1 p2 o2=>?_
 refine ⟨rfl,.inr ⟨_,rfl,Jb (o2 l2 _ ak n2d n2l) fun v hv=>?_⟩⟩
 have hv5:0≤v∧v≤12:=by rcases hv with rfl | rfl <;> omega
 refine ⟨_,_,rfl,rfl,d,lo,_,rfl,p2,(by show 0 < v+1; omega),(by show v+1 < _; omega),fun r3 H3 q0 q1 p3 o3=>?_⟩
 exact k r3 H3 q0 (by omega) p3 (((Old.of (aq hl2 _)).trans o2).trans o3)
theorem FQ:aK ["_law_pot_here", "_law_names_here"] ["_law_pot_here", "_law_names_here"] (aC vA):=⟨rfl,rfl,rfl,by decide +kernel,rfl,by decide +kernel,by decide +kernel⟩
theorem GJ (h:Has K mg "_law_taken" vA ["_law_pot_here", "_law_names_here"]) (C_next:Cal P w K mg base "_law_next" 1 ["_law_pot_here", "_law_many"] jg) (m_len:mg "len" = none):Cal P w K mg base "_law_taken" 2 ["_law_pot_here", "_law_names_here"] zj:=by
 refine h.mk' FQ (fun vs H Q E hs=>?_) (fun f cdv A outer s H vs Q E hr hs=>?_)
 ·obtain ⟨d,lo,l,xs,rfl,_⟩:=hs
  rfl
 obtain ⟨d,lo,l,xs,rfl,hp,hl,nd,nl,hne,hlen,k⟩:=hs
 refine ⟨_,(aF (bx (gD PySem.F.plainAttrs_list PySem.F.slot_list_pop PySem.F.type_list_pop vD (pv 1) (aj (aY C_next hr (by decide) rfl (aj (pv 0) (aj (bH fj rfl m_len PySem.boot_len (aj (pv 1) au)) au))) au)))),?_⟩
 have hpos:0 < xs.length:=List.length_pos_iff.mpr hne
 refine ⟨_,rfl,.inl ⟨rfl,_,SqL.of hl⟩,_,rfl,_,rfl,l,_,rfl,.inl (SqL.of hl),?_⟩
 refine ⟨d,lo,_,rfl,hp,(by rw [List.length_map]; omega),(by rw [List.length_map]; omega),fun r H2 r0 r1 p2 o2=>?_⟩
 have hl2:H2 l=some (.lst (xs.map mkT)):=o2 l _ hl nd nl
 obtain ⟨i,rfl⟩:=Int.eq_ofNat_of_zero_le r0
 have hi:i < xs.length:=by
  rw [List.length_map] at r1
  omega
 refine ⟨l,_,_,i,mkT xs[i],rfl,rfl,hl2,by omega,by omega,by rw [List.length_map]; exact Gy hi,by rw [List.getElem?_map,List.getElem?_eq_getElem hi]; rfl,?_⟩
 rw [sH]
 exact k i hi _ ak (p2.upd nd nl) fun c o e h1 h2 h3=>(aG h3).trans (o2 c o e h1 h2)
theorem iJ:aK ["_law_pot_here", "_law_many", "_law_made", "_law_now", "_law_k"] ["_law_pot_here", "_law_many"] (aC lD):=⟨rfl,rfl,rfl,by decide +kernel,rfl,by decide +kernel,by decide +kernel⟩
theorem Ba (h:Has K mg "_law_moments" lD ["_law_pot_here", "_law_many"]) (C_next:Cal P w K mg base "_law_next" 1 ["_law_pot_here", "_law_many"] jg) (m_int:mg "int" = none) (m_range:mg "range" = none) (m_tuple:mg "tuple" = none):Cal P w K mg base "_law_moments" 2 ["_law_pot_here", "_law_many"] mz:=by
 refine h.mk' iJ (fun vs H Q E hs=>?_) (fun f cdv A outer s H vs Q E hr hs=>?_)
 ·obtain ⟨d,lo,n,rfl,_⟩:=hs
  rfl
 obtain ⟨d,lo,n,rfl,hp,hn,k⟩:=hs
 refine ⟨_,(ao (aH (i:=2) iJ.nd rfl (Or.inl rfl) (aX au))
  (ao (aH (i:=3) iJ.nd rfl (Or.inl rfl) (aM cC (aX (aj aB (aj (aV oO (aV DX aB aB) aB) au))) (cD m8 rfl m_int boot_int (aj (fJ nM (aY C_next hr (by decide) rfl (aj (pv 0) (aj aB au))) aB (bZ _)) au)) (fun _ _=>rfl)))
  (ao (fQ PassesOwn.never rfl (eN rfl m_range (aj (pv 1) au)) (aU (i:=4) iJ.nd rfl (Or.inl rfl))
   (ao (aH (i:=3) iJ.nd rfl (Or.inl rfl) (aV fG (aV fG (pv 3) (aY C_next hr (by decide) rfl (aj (pv 0) (aj aB au)))) (cD m8 rfl m_int boot_int (aj (fJ JN (pv 4) aB (bZ _)) au))))
  (aF (cL (gD PySem.F.plainAttrs_list PySem.F.slot_list_append PySem.F.type_list_append cG (pv 2) (aj (pv 3) au))))))
  (aF (bx (cD bL rfl m_tuple boot_tuple (aj (pv 2) au))))))),?_⟩
 refine ⟨smn 0,fun lm hlm=>?_⟩
 obtain ⟨nmd,nml⟩:=hp.ne hlm
 have hp1:=hp.new (o:=HO.lst []) hlm
 refine ⟨_,_,rfl,rfl,⟨by decide,by decide,by decide⟩,_,_,rfl,rfl,smn 2,fun l2 hl2=>?_⟩
 obtain ⟨n2d,n2l⟩:=hp1.ne hl2
 refine pB (σ:=[some (.ref d),some (.int (n:Nat)),some (.ref lm),none,none]) (i:=0) (m:=12) rfl (hp1.new hl2) (by decide) (by decide) fun r H2 r0 r1 p2 o2=>?_
 have e2v:H2 lm=some (.lst []):=o2 lm _ (aq hl2 _ _ _ ak) nmd nml
 have oA:Old d lo H H2:=((Old.of (aq hlm _)).trans (Old.of (aq hl2 _))).trans o2
 refine ⟨rfl,.inr ⟨_,rfl,Jb (o2 l2 _ ak n2d n2l) fun v hv=>?_⟩⟩
 have e10:(10:Int) ^ (12:Int).toNat=1000000000000:=by decide
 have hv5:0≤v∧v≤999999999500:=by
  rcases hv with rfl | rfl
  ·decide
  ·rw [e10]
   decide
 refine ⟨_,rfl,_,rfl,by omega,by omega,?_⟩
 refine jC (lo:=0) (n:=n) (fun j σ H4=>∃ (v4:Option V) (now:Int) (ms:List Int),σ=[some (.ref d),some (.int (n:Nat)),some (.ref lm),some (.int now),v4]∧bQ d lo H4∧Old d lo H H4∧H4 lm=some (.lst (ms.map V.int))∧ms.length=j∧0≤now∧now≤999999999500+30 * j∧(∀ m∈ms,0≤m∧m≤now)∧ms.Pairwise (· < ·))
  ⟨none,v,[],rfl,p2,oA,e2v,rfl,hv5.1,by omega,(fun m h=>by cases h),.nil⟩ ?_ ?_
 ·rintro j σ H4 hj ⟨v4,now,ms,rfl,p4,o4,e4,hl4,hn0,hn1,hms,hpw⟩
  refine gN ⟨_,rfl,?_⟩
  refine pB (σ:=[some (.ref d),some (.int (n:Nat)),some (.ref lm),some (.int now),some (.int (0+(j:Int)))]) (i:=0) (m:=30) rfl p4 (by decide) (by decide) fun r5 H5 q0 q1 p5 o5=>?_
  have e5:H5 lm=some (.lst (ms.map V.int)):=o5 lm _ e4 nmd nml
  refine ⟨_,_,rfl,rfl,_,rfl,_,_,rfl,rfl,.inr ⟨_,rfl,_,_,rfl,rfl,?_⟩⟩
  generalize hb:(if decide ((0:Int) < 0+(j:Int))=true then (1:Int) else 0)=b
  have hb0:0≤b∧b≤1∧(0 < j→b=1):=by
   subst hb
   by_cases hj0:0 < j
   ·rw [if_pos (decide_eq_true (by omega))]
    exact ⟨by decide,by decide,fun _=>rfl⟩
   ·rw [if_neg (fun z=>by have:=of_decide_eq_true z; omega)]
    exact ⟨by decide,by decide,fun z=>absurd z hj0⟩
  refine ⟨_,rfl,.inl ⟨rfl,_,SqL.of e5⟩,_,rfl,lm,_,_,rfl,rfl,e5,?_,?_⟩
  ·rw [List.length_map]
   exact aN (by omega)
  ·refine ⟨_,now+r5+b,ms++[now+r5+b],rfl,p5.upd nmd nml,(o4.trans o5).free hlm,?_,by rw [List.length_append,hl4]; rfl,by omega,by omega,fun m hm=>?_,?_⟩
   ·rw [ak,List.map_append]
    rfl
   ·rcases List.mem_append.mp hm with z | z
    ·have:=hms m z
     omega
    ·rw [List.mem_singleton.mp z]
     omega
   ·rw [List.pairwise_append]
    refine ⟨hpw,List.pairwise_singleton _ _,fun a ha c hc=>?_⟩
    rw [List.mem_singleton.mp hc]
    have hj0:0 < j:=by
     rw [← hl4]
     exact List.length_pos_of_mem ha
    have:=(hms a ha).2
    have:=hb0.2.2 hj0
    omega
 ·rintro σ H4 ⟨v4,now,ms,rfl,p4,o4,e4,hl4,hn0,hn1,hms,hpw⟩
  refine ⟨_,rfl,lm,_,rfl,.inl ⟨SqL.of e4,fun q hq=>?_⟩⟩
  exact k q ms _ ak ⟨fun m hm=>⟨(hms m hm).1,by have:=(hms m hm).2; omega⟩,hpw,by omega⟩ hl4 (p4.new hq) (o4.trans (Old.of (aq hq _)))
end
def Dz:Sp:=fun vs H Q _=>∃ (d lo:Addr),vs=[.ref d]∧bQ d lo H∧∀ (t:List Nat) (H':Hp),t.length≤400→(∀ c∈t,mR c)→bQ d lo H'→Old d lo H H'→Q (.str ⟨t.toArray⟩) H'
section
variable {P:Program} {w:World} {K:PySem.W.Frag} {mg:Str→Option Value} {base:Heap}
theorem len_rep {α:Type} (n:Nat) (t:List α):(List.replicate n t).flatten.length=n * t.length:=by
 induction n with
 | zero=>simp
 | succ n ih=>rw [List.replicate_succ,List.flatten_cons,List.length_append,ih,Nat.succ_mul,Nat.add_comm]
theorem Ft {α:Type} {n:Nat} {t:List α} {c:α} (h:c∈(List.replicate n t).flatten):c∈t:=by
 obtain ⟨l,hl,hc⟩:=List.mem_flatten.mp h
 rw [(List.mem_replicate.mp hl).2] at hc
 exact hc
theorem Cm (x:Str):x=⟨x.cps.toList.toArray⟩:=by cases x; simp
theorem mH:aK ["_law_pot_here", "_law_pieces", "_law_text_here", "_law_k"] ["_law_pot_here"] (aC CZ):=⟨rfl,rfl,rfl,by decide +kernel,rfl,by decide +kernel,by decide +kernel⟩
theorem Ih (h:Has K mg "_law_text" CZ ["_law_pot_here"]) (C_next:Cal P w K mg base "_law_next" 1 ["_law_pot_here", "_law_many"] jg) (m_range:mg "range" = none):Cal P w K mg base "_law_text" 2 ["_law_pot_here"] Dz:=by
 refine h.mk' mH (fun vs H Q E hs=>?_) (fun f cdv A outer s H vs Q E hr hs=>?_)
 ·obtain ⟨d,lo,rfl,_⟩:=hs
  rfl
 obtain ⟨d,lo,rfl,hp,k⟩:=hs
 refine qex ⟨_,(Bv (Jx (i:=1) mH.nd rfl (Or.inl rfl) (Ip (xY ⟨aA⟩ (xY ⟨aA⟩ (xY ⟨aA⟩ (xY ⟨aA⟩ (xY ⟨aA⟩ (xY ⟨aA⟩ (xY ⟨aA⟩ (xY ⟨aA⟩ (xY ⟨aA⟩ (xY ⟨aA⟩ (xY ⟨aA⟩ Jm)))))))))))))
  ⟨(ao (aH (i:=1) mH.nd rfl (Or.inl rfl) (aV mL (pv 1) (aX (aj aA (aj aA (aj aA au))))))
  (ao (aH (i:=2) mH.nd rfl (Or.inl rfl) aA)
  (ao (fQ PassesOwn.never rfl (eN rfl m_range (aj (aY C_next hr (by decide) rfl (aj (pv 0) (aj aB au))) au)) (aU (i:=3) mH.nd rfl (Or.inl rfl))
   (aF (aH (i:=2) mH.nd rfl (Or.inl rfl) (aV dg (pv 2) (aM cC (pv 1) (aY C_next hr (by decide) rfl (aj (pv 0) (aj aB au))) (fun _ _=>rfl))))))
  (ao (dM (bh nM (aY C_next hr (by decide) rfl (aj (pv 0) (aj aB au))) aB (bZ _))
   (aF (aH (i:=2) mH.nd rfl (Or.inl rfl) (aV mY (aV dg (pv 2) aA) aB)))
   bN)
  (aF (bx (eZ Ae (pv 2) iH (g8 aB))))))))⟩),?_⟩
 refine ⟨smn 11,fun lm hlm=>?_⟩
 have hp1:=hp.new (o:=HO.lst ((["One", "two 3", "a", " ", "x-y", "Zz9", "~", "Word word", "4", ", ", "_b"]:List Str).map V.str)) hlm
 have em:(upd H lm (.lst ((["One", "two 3", "a", " ", "x-y", "Zz9", "~", "Word word", "4", ", ", "_b"]:List Str).map V.str))) lm=some (.lst ((["One", "two 3", "a", " ", "x-y", "Zz9", "~", "Word word", "4", ", ", "_b"]:List Str).map V.str)):=ak
 refine ⟨_,rfl,smn 3,fun l2 hl2=>?_⟩
 have e2:(upd (upd H lm (.lst ((["One", "two 3", "a", " ", "x-y", "Zz9", "~", "Word word", "4", ", ", "_b"]:List Str).map V.str))) l2 (.lst ((["\n", "\\", "\""]:List Str).map V.str))) l2=some (.lst ((["\n", "\\", "\""]:List Str).map V.str)):=ak
 have hp2:=hp1.new (o:=HO.lst ((["\n", "\\", "\""]:List Str).map V.str)) hl2
 refine ⟨lm,l2,_,_,rfl,rfl,aq hl2 _ _ _ em,e2,smn 14,fun l3 hl3=>?_⟩
 have oA:Old d lo H _:=((Old.of (aq hlm _)).trans (Old.of (aq hl2 _))).trans (Old.of (aq hl3 (.lst ((["One", "two 3", "a", " ", "x-y", "Zz9", "~", "Word word", "4", ", ", "_b", "\n", "\\", "\""]:List Str).map V.str))))
 have hp3:=hp2.new (o:=HO.lst ((["One", "two 3", "a", " ", "x-y", "Zz9", "~", "Word word", "4", ", ", "_b", "\n", "\\", "\""]:List Str).map V.str)) hl3
 obtain ⟨nmd,nml⟩:=hp2.ne hl3
 have gm:∀ x∈(["One", "two 3", "a", " ", "x-y", "Zz9", "~", "Word word", "4", ", ", "_b", "\n", "\\", "\""]:List Str),x.length≤9∧∀ c∈x.cps.toList,mR c:=by decide +kernel
 have hml:(["One", "two 3", "a", " ", "x-y", "Zz9", "~", "Word word", "4", ", ", "_b", "\n", "\\", "\""]:List Str).length=14:=rfl
 refine pB (σ:=[some (.ref d),some (.ref l3),some (.str ""),none]) (i:=0) (m:=6) rfl hp3 (by decide) (by decide) fun r H2 r0 r1 p2 o2=>?_
 have e3m:H2 l3=some (.lst ((["One", "two 3", "a", " ", "x-y", "Zz9", "~", "Word word", "4", ", ", "_b", "\n", "\\", "\""]:List Str).map V.str)):=o2 l3 _ ak nmd nml
 have oB:=oA.trans o2
 refine ⟨r,rfl,by omega,by omega,?_⟩
 generalize (["One", "two 3", "a", " ", "x-y", "Zz9", "~", "Word word", "4", ", ", "_b", "\n", "\\", "\""]:List Str)=MENU at e3m gm hml
 refine jC (lo:=0) (n:=r.toNat) (fun j σ H4=>∃ (x:Str) (v3:Option V),σ=[some (.ref d),some (.ref l3),some (.str x),v3]∧bQ d lo H4∧Old d lo H H4∧H4 l3=some (.lst (MENU.map V.str))∧x.length≤9 * j∧∀ c∈x.cps.toList,mR c)
  ⟨"",none,rfl,p2,oB,e3m,by decide +kernel,by decide +kernel⟩ ?_ ?_
 ·rintro j σ H4 hj ⟨x,v3,rfl,p4,o4,e4m,hx,gx⟩
  have hj41:j < 6:=by omega
  refine ⟨_,rfl,_,rfl,?_⟩
  refine pB (σ:=[some (.ref d),some (.ref l3),some (.str x),some (.int (0+(j:Int)))]) (i:=0) (m:=14) rfl p4 (by decide) (by decide) fun r5 H5 w0 w1 p5 o5=>?_
  obtain ⟨y,hy,hm⟩:=Ea (xs:=MENU.map V.str) w0 (by rw [List.length_map,hml]; exact w1)
  obtain ⟨m,hmm,rfl⟩:=List.mem_map.mp hm
  obtain ⟨g1,g2⟩:=gm m hmm
  refine ⟨l3,_,r5,_,rfl,rfl,SqL.of (o5 l3 _ e4m nmd nml),hy,_,_,rfl,rfl,small (by omega),?_⟩
  refine ⟨x++m,_,rfl,p5,o4.trans o5,o5 l3 _ e4m nmd nml,?_,good_str gx g2⟩
  have e:(x++m).length=x.length+m.length:=by
   show (x.cps++m.cps).size=_
   rw [Array.size_append]
   rfl
  rw [e]
  omega
 ·rintro σ H4 ⟨x,v3,rfl,p4,o4,e4m,hx,gx⟩
  refine pB (σ:=[some (.ref d),some (.ref l3),some (.str x),v3]) (i:=0) (m:=16) rfl p4 (by decide) (by decide) fun r5 H5 w0 w1 p5 o5=>?_
  refine ⟨rfl,_,rfl,?_⟩
  have fin:∀ (z:Str),z.length≤20000→(∀ c∈z.cps.toList,mR c)→Q (.str (Txt.slice z none (some 400))) H5:=fun z hz gz=>by
   have es:Txt.slice z none (some 400)=⟨(z.cps.toList.take 400).toArray⟩:=SLi.upto z 400
   rw [es]
   exact k _ H5 (by rw [List.length_take]; omega) (fun c hc=>gz c (List.mem_of_mem_take hc)) p5 (o4.trans o5)
  refine fV (fun h1=>?_) (fun h1=>?_)
  ·have e:(x ++ "q ").length=x.length+2:=by
    show (x.cps++("q " : Str).cps).size=_
    rw [Array.size_append]
    rfl
   have gy:∀ c∈(x ++ "q ").cps.toList,mR c:=good_str gx (by decide +kernel)
   refine ⟨_,rfl,_,_,rfl,rfl,small (by rw [show (("q " : Str)).length=2 from rfl]; omega),?_⟩
   generalize x ++ "q " = y at e gy
   have hyl:y.cps.toList.length≤60:=by
    have:y.cps.size=x.length+2:=e
    rw [Array.length_toList]
    omega
   rw [Cm y]
   refine ⟨y.cps.toList,200,rfl,rfl,by decide,by omega,?_⟩
   have hl:(List.replicate 200 y.cps.toList).flatten.length≤20000:=by
    rw [len_rep]
    omega
   refine ⟨_,rfl,_,rfl,_,rfl,?_,fin _ ?_ ?_⟩
   ·show (List.replicate 200 y.cps.toList).flatten.toArray.size≤_
    rw [List.size_toArray]
    exact Nat.le_trans hl (Nat.le_trans (by decide) bR)
   ·show (List.replicate 200 y.cps.toList).flatten.toArray.size≤_
    rw [List.size_toArray]
    exact hl
   ·intro c hc
    have hc':c∈(List.replicate 200 y.cps.toList).flatten:=by
     have e:(List.replicate 200 y.cps.toList).flatten.toArray.toList=(List.replicate 200 y.cps.toList).flatten:=List.toList_toArray
     rw [← e]
     exact hc
    exact gy c (Ft hc')
  ·refine ⟨_,rfl,_,rfl,x,rfl,small (by omega),fin x (by omega) gx⟩
end
def unD:D→List Nat
 | .str x=>x.cps.toList
 | _=>[]
theorem yw (x:List Nat):unD (sD x)=x:=by
 show (x.toArray).toList=x
 simp
theorem Ik {a b:List Nat} (h:sD a=sD b):a=b:=by
 have:=congrArg unD h
 rwa [yw,yw] at this
theorem Ay {ns:Nms} (hu:UpD (ns.map sD)) (hn:ns.Nodup):ns.Pairwise fun a b=>dlt (sD a) (sD b)=true:=by
 unfold UpD at hu
 rw [List.pairwise_map] at hu
 rw [List.nodup_iff_pairwise_ne] at hn
 refine List.Pairwise.imp₂ (fun a b h1 h2=>?_) hu hn
 cases h:dlt (sD a) (sD b) with
 | true=>rfl
 | false=>exact absurd (Ik (mZ _ _ h h1)) h2
theorem rP (ts:Nms):Hom (ts.map sD):=by
 refine ⟨fun a ha b hb=>?_,.inr (.inl fun d hd=>?_)⟩
 ·obtain ⟨x,_,rfl⟩:=List.mem_map.mp ha
  obtain ⟨y,_,rfl⟩:=List.mem_map.mp hb
  exact pY _ _
 ·obtain ⟨x,_,rfl⟩:=List.mem_map.mp hd
  exact ⟨_,rfl⟩
theorem gU {α:Type}:∀ {xs:List α} {i:Nat} (h:i < xs.length),xs.Perm ([xs[i]]++xs.eraseIdx i)
 | x :: xs,0,_=>List.Perm.refl _
 | x :: xs,i+1,h=>by
  have h':i < xs.length:=by simpa using h
  have ih:=gU h'
  show (x :: xs).Perm (xs[i] :: x :: xs.eraseIdx i)
  exact ((ih.cons x).trans (List.Perm.swap _ _ _))
theorem fO {d lo l:Addr} {H H':Hp} {ys:List V} (hp:bQ d lo H) (hl:H l=some (.lst ys)) (o:Ke d lo l H H'):∀ (b:Addr) (vs:List V),H b=some (.tup vs)→H' b=some (.tup vs):=fun b vs e=>by
 obtain ⟨cs,k,sd,m,e1,e2,r⟩:=hp
 exact o b _ e (su e e1 (by intro z; cases z)) (su e e2 (by intro z; cases z)) (su e hl (by intro z; cases z))
theorem dD {H:Hp} {l:Addr} {ys zs:List V} (hl:H l=some (.lst ys)):∀ (b:Addr) (vs:List V),H b=some (.tup vs)→upd H l (.lst zs) b=some (.tup vs):=fun b vs e=>by
 rw [aG (su e hl (by intro z; cases z))]
 exact e
def QG:List Nat:=[122,122,121,121,120,120,119,119]
theorem Nu (t k:Nat):nm0 t k≠QG:=fun e=>by
 have:=congrArg List.length e
 have h7:(nm0 t k).length=k % 7+1:=by simp [nm0]
 rw [h7] at this
 have e8:QG.length=8:=rfl
 omega
theorem M4 (t k:Nat):nm1 t k≠QG:=fun e=>by
 have a:(122:Nat)∈nm1 t k:=by rw [e]; simp [QG]
 have b:(121:Nat)∈nm1 t k:=by rw [e]; simp [QG]
 have a':=(List.mem_replicate.mp a).2
 have b':=(List.mem_replicate.mp b).2
 omega
theorem Ob {a:Nat} (ha:a≤6) (t k:Nat):nm2 t a k≠QG:=fun e=>by
 unfold nm2 at e
 generalize ltr t 25=c at e
 generalize ltr t (k % 20)=x at e
 generalize ltr t (k / 20)=y at e
 unfold QG at e
 match a,ha with
 | 0,_=>simp [List.replicate] at e; omega
 | 1,_=>simp [List.replicate] at e; omega
 | 2,_=>simp [List.replicate] at e; omega
 | 3,_=>simp [List.replicate] at e; omega
 | 4,_=>simp [List.replicate] at e; omega
 | 5,_=>simp [List.replicate] at e; omega
 | 6,_=>simp [List.replicate] at e; omega
def QN:List Nat:=[119,119,120,120,121,121,122,122]
theorem NP (t k:Nat):nm0 t k≠QN:=fun e=>by
 have:=congrArg List.length e
 have h7:(nm0 t k).length=k % 7+1:=by simp [nm0]
 rw [h7] at this
 have e8:QN.length=8:=rfl
 omega
theorem Od (t k:Nat):nm1 t k≠QN:=fun e=>by
 have a:(122:Nat)∈nm1 t k:=by rw [e]; simp [QN]
 have b:(121:Nat)∈nm1 t k:=by rw [e]; simp [QN]
 have a':=(List.mem_replicate.mp a).2
 have b':=(List.mem_replicate.mp b).2
 omega
theorem Nf {a:Nat} (ha:a≤6) (t k:Nat):nm2 t a k≠QN:=fun e=>by
 unfold nm2 at e
 generalize ltr t 25=c at e
 generalize ltr t (k % 20)=x at e
 generalize ltr t (k / 20)=y at e
 unfold QN at e
 match a,ha with
 | 0,_=>simp [List.replicate] at e; omega
 | 1,_=>simp [List.replicate] at e; omega
 | 2,_=>simp [List.replicate] at e; omega
 | 3,_=>simp [List.replicate] at e; omega
 | 4,_=>simp [List.replicate] at e; omega
 | 5,_=>simp [List.replicate] at e; omega
 | 6,_=>simp [List.replicate] at e; omega
def NG (xs:Nms):Prop:=∀ x∈xs,x≠QG∧x≠QN
theorem yH {f:Nat→List Nat} (h:∀ k,f k≠QG) (g:∀ k,f k≠QN):NG ((List.range 70).map f):=fun x hx=>by
 obtain ⟨k,_,rfl⟩:=List.mem_map.mp hx
 exact ⟨h k,g k⟩
def Aj:Sp:=fun vs H Q _=>∃ (d lo:Addr),vs=[.ref d]∧bQ d lo H∧∀ (l:Addr) (xs:Nms) (H':Hp),H l=none→H' l=some (.lst (xs.map mkT))→Aq xs→NG xs→bQ d lo H'→Old d lo H H'→Q (.ref l) H'
def CJ (t:Nat):Str:=⟨((List.range 26).map (ltr t)).toArray⟩
theorem CV:LET.cps.toList=(List.range 26).map (97 + ·):=by decide +kernel
theorem wZ {t:Nat} (h:t < 26):Txt.slice LET (some (t:Int)) none++Txt.slice LET none (some (t:Int))=CJ t:=by
 rw [SLi.from_,SLi.upto,CV]
 show (⟨_++_⟩:Str)=_
 rw [List.append_toArray,yE h (i:=0) (by decide)]
 rfl
theorem Cd (t:Nat):(CJ t).length=26:=by
 show ((List.range 26).map (ltr t)).toArray.size=26
 simp
theorem jk {t i:Nat} (hi:i < 26) {x:Int} (hx:x=(i:Nat)):atI (CJ t).cps.toList x=some (ltr t i):=by
 subst hx
 refine aJ ?_
 show (((List.range 26).map (ltr t)).toArray).toList[i]?=_
 simp [List.getElem?_range hi]
theorem rep1 (n c:Nat):(List.replicate n [c]).flatten=List.replicate n c:=by
 induction n with
 | zero=>rfl
 | succ n ih=>rw [List.replicate_succ,List.flatten_cons,ih]; rfl
theorem oZ (a b:List Nat):(⟨a.toArray⟩:Str)++(⟨b.toArray⟩:Str)=⟨(a++b).toArray⟩:=by
 show (⟨_++_⟩:Str)=_
 rw [List.append_toArray]
theorem lu (a:List Nat):(⟨a.toArray⟩:Str).length=a.length:=by show a.toArray.size=_; simp
theorem jX (f:Nat→List Nat) (i:Nat):((List.range i).map f).map mkT++[mkT (f i)]=((List.range (i+1)).map f).map mkT:=by
 rw [List.range_succ,List.map_append,List.map_append]
 rfl
theorem Old.none {d lo b:Addr} {H H':Hp} (o:Old d lo H H') (hp:bQ d lo H) (hp':bQ d lo H') (hb:H' b=none):H b=none:=by
 obtain ⟨h1,h2⟩:=hp'.ne hb
 cases e:H b with
 | none=>rfl
 | some u =>
  have:=o b u e h1 h2
  rw [hb] at this
  cases this
section
variable {P:Program} {w:World} {K:PySem.W.Frag} {mg:Str→Option Value} {base:Heap}
theorem iC:aK ["_law_pot_here", "_law_letters", "_law_turn", "_law_way", "_law_at", "_law_ahead", "_law_behind"] ["_law_pot_here"] (aC mj):=⟨rfl,rfl,rfl,by decide +kernel,rfl,by decide +kernel,by decide +kernel⟩
theorem GX (h:Has K mg "_law_names" mj ["_law_pot_here"]) (C_next:Cal P w K mg base "_law_next" 1 ["_law_pot_here", "_law_many"] jg) (m_range:mg "range" = none):Cal P w K mg base "_law_names" 2 ["_law_pot_here"] Aj:=by
 refine h.mk' iC (fun vs H Q E hs=>?_) (fun f cdv A outer s H vs Q E hr hs=>?_)
 ·obtain ⟨d,lo,rfl,_⟩:=hs
  rfl
 obtain ⟨d,lo,rfl,hp,k⟩:=hs
 refine ⟨_,(ao (aH (i:=1) iC.nd rfl (Or.inr rfl) aA)
  (ao (aH (i:=2) iC.nd rfl (Or.inl rfl) (aY C_next hr (by decide) rfl (aj (pv 0) (aj aB au))))
  (ao (aH (i:=1) iC.nd rfl (Or.inr rfl) (aV dg (eZ Ae (pv 1) (g8 (pv 2)) iH) (eZ Ae (pv 1) iH (g8 (pv 2)))))
  (ao (aH (i:=3) iC.nd rfl (Or.inl rfl) (aY C_next hr (by decide) rfl (aj (pv 0) (aj aB au))))
  (ao (dM (bh nM (pv 3) aB (bZ _))
   (aF (bx (cN ["_law_pot_here", "_law_letters", "_law_turn", "_law_way", "_law_at", "_law_ahead", "_law_behind"] (aC mj) ["_law_letters", "_law_k"] [some 1,none] rfl rfl rfl (eN rfl m_range (aj aB au)) rfl (by decide +kernel) (by decide +kernel) (by decide +kernel) (by decide +kernel) (hg:=fun cl C s H ex pn E=>(aU (i:=1) (by decide +kernel:(["_law_letters", "_law_k"]:List Str).Nodup) rfl (Or.inl rfl))) (ht:=fun cl C s H ex pn E=>cJ) (he:=fun cl C s H ex pn E=>(aV dg (aM nA (pv 0) (aV gY (pv 1) aB) (fun _ _=>rfl)) (aV mY (aM nA (pv 0) (aV jL (pv 1) aB) (fun _ _=>rfl)) (aV gY (pv 1) aB)))))))
   bN)
  (ao (dM (bh nM (pv 3) aB (bZ _))
   (aF (bx (cN ["_law_pot_here", "_law_letters", "_law_turn", "_law_way", "_law_at", "_law_ahead", "_law_behind"] (aC mj) ["_law_letters", "_law_k"] [some 1,none] rfl rfl rfl (eN rfl m_range (aj aB au)) rfl (by decide +kernel) (by decide +kernel) (by decide +kernel) (by decide +kernel) (hg:=fun cl C s H ex pn E=>(aU (i:=1) (by decide +kernel:(["_law_letters", "_law_k"]:List Str).Nodup) rfl (Or.inl rfl))) (ht:=fun cl C s H ex pn E=>cJ) (he:=fun cl C s H ex pn E=>(aV mY (aM nA (pv 0) (aV jL (pv 1) aB) (fun _ _=>rfl)) (aV fG aB (aV gY (pv 1) aB)))))))
   bN)
  (ao (aH (i:=4) iC.nd rfl (Or.inl rfl) (aY C_next hr (by decide) rfl (aj (pv 0) (aj aB au))))
  (ao (Ek (cH (aj (aV mY (aM nA (pv 1) aB (fun _ _=>rfl)) (pv 4)) (aj (aV mY (aM nA (pv 1) aB (fun _ _=>rfl)) (aV oO aB (pv 4))) au))) (uV (n:=2) rfl (eY (aU (i:=5) iC.nd rfl (Or.inr rfl)) (eY (aU (i:=6) iC.nd rfl (Or.inr rfl)) pX))))
  (aF (bx (cN ["_law_pot_here", "_law_letters", "_law_turn", "_law_way", "_law_at", "_law_ahead", "_law_behind"] (aC mj) ["_law_letters", "_law_ahead", "_law_behind", "_law_k"] [some 1,some 5,some 6,none] rfl rfl rfl (eN rfl m_range (aj aB au)) rfl (by decide +kernel) (by decide +kernel) (by decide +kernel) (by decide +kernel) (hg:=fun cl C s H ex pn E=>(aU (i:=3) (by decide +kernel:(["_law_letters", "_law_ahead", "_law_behind", "_law_k"]:List Str).Nodup) rfl (Or.inl rfl))) (ht:=fun cl C s H ex pn E=>cJ) (he:=fun cl C s H ex pn E=>(aV dg (aV dg (aV dg (pv 1) (aM nA (pv 0) (aV gY (pv 3) aB) (fun _ _=>rfl))) (aM nA (pv 0) (aV jL (pv 3) aB) (fun _ _=>rfl))) (pv 2)))))))))))))),?_⟩
 refine pB (σ:=[some (.ref d),some (.str LET),none,none,none,none,none]) (i:=0) (m:=26) rfl hp (by decide) (by decide) fun r H1 r0 r1 p1 o1=>?_
 obtain ⟨t,rfl⟩:=Int.eq_ofNat_of_zero_le r0
 have ht:t < 26:=by omega
 refine ⟨_,rfl,_,rfl,_,rfl,LET,rfl,small (by rw [tD]; decide),_,rfl,_,rfl,_,rfl,LET,rfl,small (by rw [tD]; decide),_,_,rfl,rfl,?_,?_⟩
 ·exact small (Nat.le_trans (Nat.add_le_add (Txt.slice_le _ _ _) (Txt.slice_le _ _ _)) (by rw [tD]; decide))
 rw [wZ ht]
 have hL:(CJ t).length≤sizeLine:=small (by rw [Cd]; decide)
 refine pB (σ:=[some (.ref d),some (.str (CJ t)),some (.int (t:Nat)),none,none,none,none]) (i:=0) (m:=3) rfl p1 (by decide) (by decide) fun r2 H2 q0 q1 p2 o2=>?_
 have o12:=o1.trans o2
 refine ⟨_,rfl,rfl,_,rfl,?_⟩
 refine fV (fun z=>?_) (fun z=>?_)
 ·refine ⟨70,rfl,by omega,by omega,fun lc hlc=>?_⟩
  have hcH:H lc=none:=o12.none hp p2 hlc
  refine gK (J:=Itr 0 70) (l:=lc) 70 (fun i σ' H'=>∃ (v:Option V),σ'=[some (.str (CJ t)),v]∧H'=upd H2 lc (.lst (((List.range i).map (nm0 t)).map mkT))) ⟨none,rfl,rfl⟩ ?_ ?_
  ·rintro σ' H' ⟨v,rfl,rfl⟩
   exact ⟨Nat.le_refl _,k lc _ _ hcH ak (Oe t) (yH (Nu t) (NP t)) (p2.new hlc) (o12.new hlc)⟩
  ·rintro i σ' H' hi ⟨v,rfl,rfl⟩
   refine ⟨hi,?_⟩
   rintro y H'' ⟨rfl,rfl⟩
   refine gN (vf (rR ?_))
   refine ⟨_,rfl,_,rfl,_,_,rfl,rfl,by show (0:Int) < 26; decide,_,_,_,rfl,rfl,hL,jk (i:=i % 26) (by omega) (by omega),?_⟩
   refine ⟨_,rfl,_,rfl,_,_,rfl,rfl,by show (0:Int) < 26∧_; decide,_,_,_,rfl,rfl,hL,jk (i:=i / 26) (by omega) (by omega),?_⟩
   refine ⟨_,rfl,_,_,rfl,rfl,by show (0:Int) < 7; decide,[ltr t (i / 26)],i % 7,rfl,congrArg V.int (by omega),by omega,by simp; omega,?_⟩
   rw [rep1]
   refine ⟨⟨[ltr t (i % 26)].toArray⟩,_,rfl,rfl,small (by rw [lu,lu,List.length_replicate]; simp; omega),?_⟩
   rw [oZ]
   refine ⟨_,ak,by rw [List.length_map,List.length_map,List.length_range]; exact aN (by omega),_,rfl,?_⟩
   rw [gM,← jX]
   rfl
 refine ⟨_,rfl,rfl,_,rfl,?_⟩
 refine fV (fun z1=>?_) (fun z1=>?_)
 ·refine ⟨70,rfl,by omega,by omega,fun lc hlc=>?_⟩
  have hcH:H lc=none:=o12.none hp p2 hlc
  refine gK (J:=Itr 0 70) (l:=lc) 70 (fun i σ' H'=>∃ (v:Option V),σ'=[some (.str (CJ t)),v]∧H'=upd H2 lc (.lst (((List.range i).map (nm1 t)).map mkT))) ⟨none,rfl,rfl⟩ ?_ ?_
  ·rintro σ' H' ⟨v,rfl,rfl⟩
   exact ⟨Nat.le_refl _,k lc _ _ hcH ak (M5 t) (yH (M4 t) (Od t)) (p2.new hlc) (o12.new hlc)⟩
  ·rintro i σ' H' hi ⟨v,rfl,rfl⟩
   refine ⟨hi,?_⟩
   rintro y H'' ⟨rfl,rfl⟩
   refine gN (vf (rR ?_))
   refine ⟨_,rfl,_,rfl,_,_,rfl,rfl,by show (0:Int) < 8∧_; decide,_,_,_,rfl,rfl,hL,jk (i:=i / 8) (by omega) (by omega),?_⟩
   refine ⟨_,rfl,_,_,rfl,rfl,by show (0:Int) < 8; decide,_,_,rfl,rfl,[ltr t (i / 8)],1+i % 8,rfl,congrArg V.int (by omega),by omega,by simp; omega,?_⟩
   rw [rep1]
   refine ⟨_,ak,by rw [List.length_map,List.length_map,List.length_range]; exact aN (by omega),_,rfl,?_⟩
   rw [gM,← jX]
   rfl
 refine pB (σ:=[some (.ref d),some (.str (CJ t)),some (.int (t:Nat)),some (.int r2),none,none,none]) (i:=0) (m:=7) rfl p2 (by decide) (by decide) fun r3 H3 u0 u1 p3 o3=>?_
 obtain ⟨a,rfl⟩:=Int.eq_ofNat_of_zero_le u0
 have ha:a≤6:=by omega
 have o13:=o12.trans o3
 refine ⟨_,rfl,_,_,_,rfl,rfl,hL,jk (i:=25) (by omega) (by omega),_,rfl,[ltr t 25],a,rfl,rfl,by omega,by simp; omega,?_⟩
 rw [rep1]
 refine ⟨_,rfl,_,_,_,rfl,rfl,hL,jk (i:=25) (by omega) (by omega),_,rfl,_,_,rfl,rfl,[ltr t 25],6 - a,rfl,congrArg V.int (by omega),by omega,by simp; omega,?_⟩
 rw [rep1]
 refine ⟨smn 2,fun tp htp=>?_⟩
 have p4:=p3.new (o:=HO.tup [mkT (List.replicate a (ltr t 25)),mkT (List.replicate (6 - a) (ltr t 25))]) htp
 have o14:=o13.new (o:=HO.tup [mkT (List.replicate a (ltr t 25)),mkT (List.replicate (6 - a) (ltr t 25))]) htp
 refine ⟨tp,_,rfl,SqT.of ak,rfl,_,_,rfl,_,_,rfl,rfl,?_⟩
 refine ⟨70,rfl,by omega,by omega,fun lc hlc=>?_⟩
 have hcH:H lc=none:=o14.none hp p4 hlc
 generalize upd H3 tp (.tup [mkT (List.replicate a (ltr t 25)),mkT (List.replicate (6 - a) (ltr t 25))])=H4 at p4 o14 hlc
 refine gK (J:=Itr 0 70) (l:=lc) 70 (fun i σ' H'=>∃ (v:Option V),σ'=[some (.str (CJ t)),some (mkT (List.replicate a (ltr t 25))),some (mkT (List.replicate (6 - a) (ltr t 25))),v]∧H'=upd H4 lc (.lst (((List.range i).map (nm2 t a)).map mkT))) ⟨none,rfl,rfl⟩ ?_ ?_
 ·rintro σ' H' ⟨v,rfl,rfl⟩
  exact ⟨Nat.le_refl _,k lc _ _ hcH ak (row2 ha) (yH (Ob ha t) (Nf ha t)) (p4.new hlc) (o14.new hlc)⟩
 ·rintro i σ' H' hi ⟨v,rfl,rfl⟩
  refine ⟨hi,?_⟩
  rintro y H'' ⟨rfl,rfl⟩
  refine gN (vf (rR ?_))
  refine ⟨_,rfl,_,rfl,_,rfl,_,_,rfl,rfl,by show (0:Int) < 20; decide,_,_,_,rfl,rfl,hL,jk (i:=i % 20) (by omega) (by omega),?_⟩
  refine ⟨_,⟨[ltr t (i % 20)].toArray⟩,rfl,rfl,small (by rw [lu,lu,List.length_replicate]; simp; omega),?_⟩
  rw [oZ]
  refine ⟨_,rfl,_,rfl,_,_,rfl,rfl,by show (0:Int) < 20∧_; decide,_,_,_,rfl,rfl,hL,jk (i:=i / 20) (by omega) (by omega),?_⟩
  refine ⟨_,⟨[ltr t (i / 20)].toArray⟩,rfl,rfl,small (by rw [lu,lu,List.length_append,List.length_replicate]; simp; omega),?_⟩
  rw [oZ]
  refine ⟨_,rfl,_,_,rfl,rfl,small (by rw [lu,lu,List.length_append,List.length_append,List.length_replicate,List.length_replicate]; simp; omega),?_⟩
  rw [oZ]
  refine ⟨_,ak,by rw [List.length_map,List.length_map,List.length_range]; exact aN (by omega),_,rfl,?_⟩
  rw [gM,← jX]
  simp only [nm2,List.append_assoc]
  rfl
end
theorem sS {α β:Type} {f:α→β}:∀ {xs ys:List β},xs.Perm ys→∀ ts:List α,ys=ts.map f→∃ ts':List α,xs=ts'.map f∧ts'.Perm ts:=by
 intro xs ys h
 induction h with
 | nil =>
  intro ts e
  have:ts=[]:=by
   cases ts with
   | nil=>rfl
   | cons=>cases e
  exact ⟨[],rfl,by rw [this]⟩
 | cons x _ ih =>
  intro ts e
  cases ts with
  | nil=>cases e
  | cons t ts =>
   injection e with e1 e2
   obtain ⟨ts',e3,p⟩:=ih ts e2
   exact ⟨t :: ts',by rw [e1,e3]; rfl,p.cons t⟩
 | swap x y l =>
  intro ts e
  match ts,e with
  | t :: u :: ts,e =>
   injection e with e1 e2
   injection e2 with e2 e3
   exact ⟨u :: t :: ts,by rw [e1,e2,e3]; rfl,List.Perm.swap _ _ _⟩
 | trans _ _ ih1 ih2 =>
  intro ts e
  obtain ⟨ts1,e1,p1⟩:=ih2 ts e
  obtain ⟨ts2,e2,p2⟩:=ih1 ts1 e1
  exact ⟨ts2,e2,p2.trans p1⟩
def J3 (k:Lnk):Prop:=k.1.length=2∧k.2.1.length=2∧vY k.1∧vY k.2.1∧0≤k.2.2.1∧k.2.2.1≤1000000000000∧Ce k.2.2.2.1∧Ce k.2.2.2.2∧k.2.2.2.1.length≤13∧k.2.2.2.2.length≤13
structure d8 (L R:List Prt) (k0 k1:Lnk) (al:Nms):Prop where
 parts:∀ p∈L++R,G9 p
 l7:7≤L.length
 l19:L.length≤19
 r7:7≤R.length
 r19:R.length≤19
 nd:((L++R).map (·.1)).Nodup
 qz:NG ((L++R).map (·.1))
 len:∀ k∈[k0,k1],J3 k
 up:dlt (bK k0) (bK k1)=true
 al2:al.length=2
 aln:vY al
 nd0:∃ (a0:List Nat) (r0:Nms),(L.map (·.1)).Perm (k0.1++k1.1++a0 :: r0)∧∃ (a1:List Nat) (r1:Nms),(R.map (·.1)).Perm (k0.2.1++k1.2.1++a1 :: r1)∧al.Perm [a0,a1]
def Ez:Sp:=fun vs H Q _=>∃ (d lo:Addr),vs=[.ref d]∧bQ d lo H∧∀ (v:V) (L R:List Prt) (k0 k1:Lnk) (al:Nms) (H':Hp),Den H' v (dH L R [k0,k1] al)→d8 L R k0 k1 al→bQ d lo H'→Old d lo H H'→Q v H'
theorem Gs {a b:Lnk} {r:Nms} (hnd:(a.1++b.1++r).Nodup) (ha:a.1.length=2):bK a≠bK b:=fun e=>by
 have e1:eU a.1=eU b.1:=by
  unfold bK at e
  injection e with e
  injection e with e _
 unfold eU at e1
 injection e1 with e1
 have e2:a.1=b.1:=by
  have:=congrArg (List.map unD) e1
  rw [List.map_map,List.map_map] at this
  have e3:(unD ∘ sD)=id:=by
   funext x
   exact yw x
  rw [e3,List.map_id,List.map_id] at this
  exact this
 match ha1:a.1,ha with
 | x :: _ ,_ =>
  rw [← e2,ha1] at hnd
  have:=hnd.sublist (List.sublist_append_left _ _)
  rw [List.nodup_append] at this
  exact this.2.2 x (.head _) x (.head _) rfl
theorem uQ {k:Lnk} (h:J3 k):fH 3 (bK k):=by
 obtain ⟨h1,h2,_,_,_,_,_,_,h3,h4⟩:=h
 refine dX (by simp) fun d hd=>?_
 simp only [List.mem_cons,List.not_mem_nil,or_false] at hd
 rcases hd with rfl | rfl | rfl | rfl
 ·exact (j5 (by omega)).up
 ·exact (j5 (by omega)).up
 ·exact (vq _).up.up
 ·refine dX (by simp) fun d hd=>?_
  simp only [List.mem_cons,List.not_mem_nil,or_false] at hd
  rcases hd with rfl | rfl
  ·exact qC (by omega)
  ·exact qC (by omega)
theorem yG {k:Lnk} (h:J3 k):fH 50 (bK k):=qb (n:=3) (uQ h) 47
theorem yW (ks:List Lnk):Hom (ks.map bK):=by
 refine ⟨fun a ha b hb=>?_,.inr (.inr fun d hd=>?_)⟩
 ·obtain ⟨x,_,rfl⟩:=List.mem_map.mp ha
  obtain ⟨y,_,rfl⟩:=List.mem_map.mp hb
  exact qd x y
 ·obtain ⟨x,_,rfl⟩:=List.mem_map.mp hd
  exact ⟨_,_,rfl⟩
structure Kp (d lo lS lR lL r0 r1:Addr) (us ws:List V) (ds es:List D) (H H':Hp):Prop where
 p:bQ d lo H'
 s:H' lS=some (.lst us)
 r:H' lR=some (.lst [.ref r0,.ref r1])
 l:H' lL=some (.lst ws)
 dn:cg H' us ds
 dw:cg H' ws es
 o:Old d lo H H'
section
variable {d lo lS lR lL r0 r1:Addr} {us ws:List V} {ds es:List D} {H H1 H2:Hp}
theorem Kp.same (k:Kp d lo lS lR lL r0 r1 us ws ds es H H1) (s:Same H1 H2):Kp d lo lS lR lL r0 r1 us ws ds es H H2:=⟨k.p.same s,s _ _ k.s,s _ _ k.r,s _ _ k.l,k.dn.same s,k.dw.same s,k.o.trans (Old.of s)⟩
theorem Kp.old (k:Kp d lo lS lR lL r0 r1 us ws ds es H H1) (z:lS≠d∧lS≠lo∧lR≠d∧lR≠lo∧lL≠d∧lL≠lo) (p2:bQ d lo H2) (o:Old d lo H1 H2):Kp d lo lS lR lL r0 r1 us ws ds es H H2 :=
 ⟨p2,o _ _ k.s z.1 z.2.1,o _ _ k.r z.2.2.1 z.2.2.2.1,o _ _ k.l z.2.2.2.2.1 z.2.2.2.2.2,k.dn.keepT (bI k.p o),k.dw.keepT (bI k.p o),k.o.trans o⟩
theorem Kp.upd {b:Addr} {ys zs:List V} (k:Kp d lo lS lR lL r0 r1 us ws ds es H H1) (hb:H1 b=some (.lst ys)) (hbH:H b=none) (z:b≠d∧b≠lo∧b≠lS∧b≠lR∧b≠lL):Kp d lo lS lR lL r0 r1 us ws ds es H (upd H1 b (.lst zs)) :=
 ⟨k.p.upd z.1 z.2.1,(aG z.2.2.1.symm).trans k.s,(aG z.2.2.2.1.symm).trans k.r,(aG z.2.2.2.2.symm).trans k.l,k.dn.keepT (dD hb),k.dw.keepT (dD hb),fun c u e h1 h2=>(aG (aD e hbH)).trans (k.o c u e h1 h2)⟩
theorem Kp.old3 {b:Addr} {ys:List V} (k:Kp d lo lS lR lL r0 r1 us ws ds es H H1) (z:lS≠d∧lS≠lo∧lR≠d∧lR≠lo∧lL≠d∧lL≠lo) (hb:H1 b=some (.lst ys)) (hbH:H b=none) (z2:b≠lS∧b≠lR∧b≠lL) (p2:bQ d lo H2) (o:Ke d lo b H1 H2):Kp d lo lS lR lL r0 r1 us ws ds es H H2 :=
 ⟨p2,o _ _ k.s z.1 z.2.1 z2.1.symm,o _ _ k.r z.2.2.1 z.2.2.2.1 z2.2.1.symm,o _ _ k.l z.2.2.2.2.1 z.2.2.2.2.2 z2.2.2.symm,k.dn.keepT (fO k.p hb o),k.dw.keepT (fO k.p hb o),fun c u e h1 h2=>o c u (k.o c u e h1 h2) h1 h2 (aD e hbH)⟩
end
theorem kJ {ns:Nms} {ds:List D} (pm:ds.Perm (ns.map sD)) (up:UpD ds) (nd:ns.Nodup) (hn:∀ x∈ns,isNm ⟨x.toArray⟩=true):∃ ms:Nms,ds=ms.map sD∧ms.Perm ns∧vY ms:=by
 obtain ⟨ms,e,p⟩:=sS pm _ rfl
 refine ⟨ms,e,p,fun x hx=>hn x (p.mem_iff.mp hx),Ay (by rw [← e]; exact up) (p.nodup_iff.mpr nd)⟩
theorem yO (ns:Nms):∀ d∈ns.map sD,fH 50 d:=fun d hd=>by
 obtain ⟨x,_,rfl⟩:=List.mem_map.mp hd
 exact qb (n:=0) (jA _) 50
section
variable {P:Program} {w:World} {K:PySem.W.Frag} {mg:Str→Option Value} {base:Heap}
theorem pJ {d lo b:Addr} {H H':Hp} {o:HO} (h:Old d lo H H') (hb:H b=none):Old d lo H (upd H' b o):=fun c u e h1 h2=>(aG (aD e hb)).trans (h c u e h1 h2)
theorem Fy {d lo l:Addr} {H H1 H2:Hp} (h:Old d lo H H1) (hl:H l=none) (o:Ke d lo l H1 H2):Old d lo H H2:=fun c u e h1 h2=>o c u (h c u e h1 h2) h1 h2 (aD e hl)
theorem none_of {d lo b:Addr} {H H':Hp} (o:Old d lo H H') (hp:bQ d lo H') (hb:H' b=none):H b=none:=by
 obtain ⟨h1,h2⟩:=hp.ne hb
 cases e:H b with
 | none=>rfl
 | some u =>
  have:=o b u e h1 h2
  rw [hb] at this
  cases this
theorem eO:aK ["_law_pot_here", "_law_names_here", "_law_sides", "_law_rest", "_law_links", "_law_side", "_law_parts", "_law_k", "_law_moments_here", "_law_pair", "_law_some", "_law_lost", "_law_alone"] ["_law_pot_here"] (aC wD):=⟨rfl,rfl,rfl,by decide +kernel,rfl,by decide +kernel,by decide +kernel⟩
theorem IW (h:Has K mg "_law_rich" wD ["_law_pot_here"]) (C_names:Cal P w K mg base "_law_names" 2 ["_law_pot_here"] Aj) (C_count:Cal P w K mg base "_law_count" 2 ["_law_pot_here", "_law_most"] yZ) (C_moments:Cal P w K mg base "_law_moments" 2 ["_law_pot_here", "_law_many"] mz) (C_text:Cal P w K mg base "_law_text" 2 ["_law_pot_here"] Dz) (C_taken:Cal P w K mg base "_law_taken" 2 ["_law_pot_here", "_law_names_here"] zj) (C_next:Cal P w K mg base "_law_next" 1 ["_law_pot_here", "_law_many"] jg) (m_range:mg "range" = none) (m_tuple:mg "tuple" = none) (m_sorted:mg "sorted" = none):Cal P w K mg base "_law_rich" 4 ["_law_pot_here"] Ez:=by
 refine h.mk' eO (fun vs H Q E hs=>?_) (fun f cdv A outer s H vs Q E hr hs=>?_)
 ·obtain ⟨d,lo,rfl,_⟩:=hs
  rfl
 obtain ⟨d,lo,rfl,hp,k⟩:=hs
 refine ⟨_,(ao (aH (i:=1) eO.nd rfl (Or.inl rfl) (aY C_names hr (by decide) rfl (aj (pv 0) au)))
  (ao (aH (i:=2) eO.nd rfl (Or.inl rfl) (aX au))
  (ao (aH (i:=3) eO.nd rfl (Or.inr rfl) (aX au))
  (ao (aH (i:=4) eO.nd rfl (Or.inl rfl) (aX au))
  (ao (fQ PassesOwn.never rfl (dR (cH (aj aB (aj aB au)))) (aU (i:=5) eO.nd rfl (Or.inr rfl))
   (ao (aH (i:=6) eO.nd rfl (Or.inl rfl) (aX au))
  (ao (fQ PassesOwn.never rfl (eN rfl m_range (aj (aV fG aB (aY C_count hr (by decide) rfl (aj (pv 0) (aj aB au)))) au)) (aU (i:=7) eO.nd rfl (Or.inl rfl))
   (ao (aH (i:=8) eO.nd rfl (Or.inl rfl) (aY C_moments hr (by decide) rfl (aj (pv 0) (aj (aV fG aB (aY C_count hr (by decide) rfl (aj (pv 0) (aj aB au)))) au))))
  (aF (cL (gD PySem.F.plainAttrs_list PySem.F.slot_list_append PySem.F.type_list_append cG (pv 6) (aj (cH (aj (aY C_taken hr (by decide) rfl (aj (pv 0) (aj (pv 1) au))) (aj (aY C_text hr (by decide) rfl (aj (pv 0) au)) (aj (pv 8) au)))) au))))))
  (ao (cL (gD PySem.F.plainAttrs_list PySem.F.slot_list_append PySem.F.type_list_append cG (pv 2) (aj (cD bL rfl m_tuple boot_tuple (aj (pv 6) au)) au)))
  (aF (cL (gD PySem.F.plainAttrs_list PySem.F.slot_list_append PySem.F.type_list_append cG (pv 3) (aj (cN ["_law_pot_here", "_law_names_here", "_law_sides", "_law_rest", "_law_links", "_law_side", "_law_parts", "_law_k", "_law_moments_here", "_law_pair", "_law_some", "_law_lost", "_law_alone"] (aC wD) ["_law_part"] [none] rfl rfl rfl (jq (pv 6)) rfl (by decide +kernel) (by decide +kernel) (by decide +kernel) (by decide +kernel) (hg:=fun cl C s H ex pn E=>(aU (i:=0) (by decide +kernel:(["_law_part"]:List Str).Nodup) rfl (Or.inl rfl))) (ht:=fun cl C s H ex pn E=>cJ) (he:=fun cl C s H ex pn E=>(aM (fL (K:=K) rfl) (pv 0) aB (fun _ _=>rfl)))) au))))))))
  (ao (fQ PassesOwn.never rfl (eN rfl m_range (aj aB au)) (aU (i:=7) eO.nd rfl (Or.inl rfl))
   (ao (aH (i:=9) eO.nd rfl (Or.inl rfl) (aX au))
  (ao (fQ PassesOwn.never rfl (dR (cH (aj aB (aj aB au)))) (aU (i:=5) eO.nd rfl (Or.inr rfl))
   (ao (uF (ix:=10) eO.nd rfl rfl ["_law_pot_here", "_law_names_here", "_law_sides", "_law_rest", "_law_links", "_law_side", "_law_parts", "_law_k", "_law_moments_here", "_law_pair", "_law_some", "_law_lost", "_law_alone"] (aC wD) ["_law_pot_here", "_law_rest", "_law_side", "_law_j"] [some 0,some 3,some 5,none] rfl rfl rfl (dR (cH (aj aB (aj aB au)))) rfl (by decide +kernel) (by decide +kernel) (by decide +kernel) (by decide +kernel) (hg:=fun cl C s H ex pn E=>(aU (i:=3) (by decide +kernel:(["_law_pot_here", "_law_rest", "_law_side", "_law_j"]:List Str).Nodup) rfl (Or.inl rfl))) (ht:=fun cl C s H ex pn E=>cJ) (he:=fun cl C s H ex pn E=>(aY C_taken hr (by decide) rfl (aj (pv 0) (aj (aM (Bw (K:=K) rfl) (pv 1) (pv 2) (fun _ _=>rfl)) au)))))
  (aF (cL (gD PySem.F.plainAttrs_list PySem.F.slot_list_append PySem.F.type_list_append cG (pv 9) (aj (cD bL rfl m_tuple boot_tuple (aj (bH (gZ hr.units) rfl m_sorted boot_sorted (aj (pv 10) au)) au)) au))))))
  (ao (aH (i:=11) eO.nd rfl (Or.inl rfl) (cH (aj (aY C_moments hr (by decide) rfl (aj (pv 0) (aj (aY C_next hr (by decide) rfl (aj (pv 0) (aj aB au))) au))) (aj (aY C_moments hr (by decide) rfl (aj (pv 0) (aj (aY C_next hr (by decide) rfl (aj (pv 0) (aj aB au))) au))) au))))
  (aF (cL (gD PySem.F.plainAttrs_list PySem.F.slot_list_append PySem.F.type_list_append cG (pv 4) (aj (cH (aj (aM cC (pv 9) aB (fun _ _=>rfl)) (aj (aM cC (pv 9) aB (fun _ _=>rfl)) (aj (aM aO (aY C_moments hr (by decide) rfl (aj (pv 0) (aj aB au))) aB (fun _ _=>rfl)) (aj (pv 11) au))))) au))))))))
  (ao (aH (i:=12) eO.nd rfl (Or.inl rfl) (cD bL rfl m_tuple boot_tuple (aj (bH (gZ hr.units) rfl m_sorted boot_sorted (aj (aX (aj (aY C_taken hr (by decide) rfl (aj (pv 0) (aj (aM cC (pv 3) aB (fun _ _=>rfl)) au))) (aj (aY C_taken hr (by decide) rfl (aj (pv 0) (aj (aM cC (pv 3) aB (fun _ _=>rfl)) au))) au))) au)) au)))
  (aF (bx (cH (aj (aM cC (pv 2) aB (fun _ _=>rfl)) (aj (aM cC (pv 2) aB (fun _ _=>rfl)) (aj (cD bL rfl m_tuple boot_tuple (aj (bH (gZ hr.units) rfl m_sorted boot_sorted (aj (pv 4) au)) au)) (aj (pv 12) au)))))))))))))),?_⟩
 refine ⟨_,rfl,d,lo,rfl,hp,fun l xs H1 f1 e1 r70 hqz p1 o1=>gN ?_⟩
 obtain ⟨nd,nl⟩:=hp.ne f1
 refine ⟨smn 0,fun lS hS=>gN ⟨smn 0,fun lR hR=>gN ⟨smn 0,fun lL hL=>gN ⟨smn 2,fun tt htt=>?_⟩⟩⟩⟩
 have hSH:=none_of o1 p1 hS
 have t1:=aq hS (.lst [])
 have q1:=p1.same t1
 have hRH:=none_of (o1.trans (Old.of t1)) q1 hR
 have t2:=aq hR (.lst [])
 have q2:=q1.same t2
 have hLH:=none_of ((o1.trans (Old.of t1)).trans (Old.of t2)) q2 hL
 have t3:=aq hL (.lst [])
 have q3:=q2.same t3
 have t4:=aq htt (.tup [.int 0,.int 1])
 obtain ⟨nSd,nSl⟩:=p1.ne hS
 obtain ⟨nRd,nRl⟩:=q1.ne hR
 obtain ⟨nLd,nLl⟩:=q2.ne hL
 have nSn:lS≠l:=(aD e1 hS).symm
 have nRn:lR≠l:=(aD (t1 _ _ e1) hR).symm
 have nLn:lL≠l:=(aD (t2 _ _ (t1 _ _ e1)) hL).symm
 have nRS:lR≠lS:=(aD ak hR).symm
 have nLS:lL≠lS:=(aD (t2 _ _ ak) hL).symm
 have nLR:lL≠lR:=(aD ak hL).symm
 have eS:(upd (upd (upd (upd H1 lS (.lst [])) lR (.lst [])) lL (.lst [])) tt (.tup [.int 0,.int 1])) lS=some (.lst []):=t4 _ _ (t3 _ _ (t2 _ _ ak))
 have eR:(upd (upd (upd (upd H1 lS (.lst [])) lR (.lst [])) lL (.lst [])) tt (.tup [.int 0,.int 1])) lR=some (.lst []):=t4 _ _ (t3 _ _ ak)
 have eL:(upd (upd (upd (upd H1 lS (.lst [])) lR (.lst [])) lL (.lst [])) tt (.tup [.int 0,.int 1])) lL=some (.lst []):=t4 _ _ ak
 have eT:(upd (upd (upd (upd H1 lS (.lst [])) lR (.lst [])) lL (.lst [])) tt (.tup [.int 0,.int 1])) tt=some (.tup [.int 0,.int 1]):=ak
 have s14:=((t1.trans t2).trans t3).trans t4
 have q4:=q3.same t4
 generalize upd (upd (upd (upd H1 lS (.lst [])) lR (.lst [])) lL (.lst [])) tt (.tup [.int 0,.int 1])=H4 at eS eR eL eT s14 q4
 have o4:=o1.trans (Old.of s14)
 have e4:=s14 _ _ e1
 have hlH:=f1
 clear t1 t2 t3 t4 q1 q2 q3 hS hR hL htt s14 e1 o1 p1
 have hx70:=r70.len
 refine ⟨tt,rfl,⟨_,SqT.of eT⟩,?_⟩
 refine mK (K:=K) (a:=tt) (xs:=[.int 0,.int 1]) (fun i σ H4=>∃ (v5 v6 v7 v8:Option V) (us:List V) (Ps:List (List Prt)) (rest:Nms) (as:List Addr),σ=[some (.ref d),some (.ref l),some (.ref lS),some (.ref lR),some (.ref lL),v5,v6,v7,v8,none,none,none,none]∧bQ d lo H4∧H4 l=some (.lst (rest.map mkT))∧H4 lS=some (.lst us)∧H4 lR=some (.lst (as.map V.ref))∧H4 lL=some (.lst [])∧H4 tt=some (.tup [.int 0,.int 1]) ∧
   cg H4 us (Ps.map fun L=>D.tup (L.map bG))∧Ps.length=i∧as.length=i∧as.Nodup∧(∀ (j:Nat) (a:Addr),as[j]?=some a→∃ L:List Prt,Ps[j]?=some L∧H4 a=some (.lst ((L.map (·.1)).map mkT))∧a≠d∧a≠lo∧a≠l∧a≠lS∧a≠lR∧a≠lL∧H a=none)∧(∀ L∈Ps,7≤L.length∧L.length≤19∧∀ p∈L,G9 p)∧xs.Perm (Ps.flatten.map (·.1)++rest)∧Old d lo H H4)
  ⟨none,none,none,none,[],[],xs,[],rfl,q4,e4,eS,eR,eL,eT,trivial,rfl,rfl,.nil,(fun j a h=>by cases h),(fun L hL=>by cases hL),List.Perm.refl _,o4⟩ ?_ ?_ ?_
 ·rintro i σ H4 _ ⟨v5,v6,v7,v8,us,Ps,rest,as,rfl,_,_,_,_,_,e,_⟩
  exact SqT.of e
 ·rintro i y σ H4 hi ⟨v5,v6,v7,v8,us,Ps,rest,as,rfl,p4,e4l,e4s,e4r,e4L,e4t,dn,hPl,hal,hand,hak,hPg,hpm,o4⟩
  have hi2:i < 2:=(List.getElem?_eq_some_iff.mp hi).1
  refine gN ⟨smn 0,fun lp hlp=>gN ?_⟩
  obtain ⟨npd,npl⟩:=p4.ne hlp
  have npL:lp≠l:=(aD e4l hlp).symm
  have nps:lp≠lS:=(aD e4s hlp).symm
  have npr:lp≠lR:=(aD e4r hlp).symm
  have npk:lp≠lL:=(aD e4L hlp).symm
  have nap:∀ (j:Nat) (a:Addr),as[j]?=some a→a≠lp:=fun j a h=>by
   obtain ⟨_,_,e,_⟩:=hak j a h
   exact aD e hlp
  have hlpH:=none_of o4 p4 hlp
  have s5:=aq hlp (.lst [])
  refine ⟨_,rfl,d,lo,3,rfl,p4.same s5,by decide,by decide,fun r H5 r0 r1 p5 o5=>?_⟩
  refine ⟨_,_,rfl,rfl,_,rfl,by omega,by omega,?_⟩
  have k5:=bI (p4.same s5) o5
  refine jC (lo:=0) (n:=(7+r).toNat) (fun j σ H6=>∃ (v7 v8:Option V) (ws:List V) (qs:List Prt) (rest':Nms),σ=[some (.ref d),some (.ref l),some (.ref lS),some (.ref lR),some (.ref lL),some y,some (.ref lp),v7,v8,none,none,none,none]∧bQ d lo H6∧H6 l=some (.lst (rest'.map mkT))∧H6 lS=some (.lst us)∧H6 lR=some (.lst (as.map V.ref))∧H6 lL=some (.lst [])∧H6 tt=some (.tup [.int 0,.int 1])∧H6 lp=some (.lst ws) ∧
    cg H6 us (Ps.map fun L=>D.tup (L.map bG))∧cg H6 ws (qs.map bG)∧qs.length=j∧(∀ p∈qs,G9 p)∧(∀ (j:Nat) (a:Addr),as[j]?=some a→∃ L:List Prt,Ps[j]?=some L∧H6 a=some (.lst ((L.map (·.1)).map mkT)))∧xs.Perm (Ps.flatten.map (·.1)++qs.map (·.1)++rest')∧Old d lo H H6)
   ⟨_,_,[],[],rest,rfl,p5,o5 l _ (s5 _ _ e4l) nd nl,o5 lS _ (s5 _ _ e4s) nSd nSl,o5 lR _ (s5 _ _ e4r) nRd nRl,o5 lL _ (s5 _ _ e4L) nLd nLl,k5 tt _ (s5 _ _ e4t),o5 lp _ ak npd npl,(dn.same s5).keepT k5,trivial,rfl,(fun p hp=>by cases hp),(fun j a h=>by obtain ⟨L,h1,h2,h3,h4,_⟩:=hak j a h; exact ⟨L,h1,o5 a _ (s5 _ _ h2) h3 h4⟩),by rw [List.map_nil,List.append_nil]; exact hpm,(o4.trans (Old.of s5)).trans o5⟩ ?_ ?_
  ·rintro j σ H6 hj ⟨v7,v8,ws,qs,rest',rfl,p6,e6l,e6s,e6r,e6L,e6t,e6p,dn6,dw6,hql,hqg,hak6,hpm6,o6⟩
   have hj19:j < 19:=by omega
   have hrl:Ps.flatten.length+j+rest'.length=xs.length:=by
    have:=hpm6.length_eq
    rw [List.length_append,List.length_append,List.length_map,List.length_map] at this
    omega
   refine gN ⟨_,rfl,_,rfl,d,lo,2,rfl,p6,by decide,by decide,fun c H7 c0 c1 p7 o7=>?_⟩
   obtain ⟨cn,rfl⟩:=Int.eq_ofNat_of_zero_le c0
   refine ⟨_,_,rfl,rfl,d,lo,1+cn,by show [V.ref d,V.int (1+((cn:Nat):Int))]=_; rw [show (1:Int)+((cn:Nat):Int)=((1+cn:Nat):Int) by omega],p7,by omega,fun q8 ms H8 e8q gm hml p8 o8=>?_⟩
   have k7:=bI p6 o7
   have k8:=bI p7 o8
   have e8l:H8 l=_:=o8 l _ (o7 l _ e6l nd nl) nd nl
   have e8s:H8 lS=_:=o8 lS _ (o7 lS _ e6s nSd nSl) nSd nSl
   have e8r:H8 lR=_:=o8 lR _ (o7 lR _ e6r nRd nRl) nRd nRl
   have e8L:H8 lL=_:=o8 lL _ (o7 lL _ e6L nLd nLl) nLd nLl
   have e8p:H8 lp=_:=o8 lp _ (o7 lp _ e6p npd npl) npd npl
   have hrne:rest'≠[]:=fun z=>by
    subst z
    have hP2:Ps.flatten.length≤19:=by
     match Ps,hPl,hPg with
     | [],_,_=>simp
     | [L],_,hPg=>simpa using (hPg L (.head _)).2.1
     | _ :: _ :: _,hPl,_=>simp only [List.length_cons] at hPl; omega
    simp only [List.length_nil] at hrl
    omega
   refine gN ⟨_,rfl,.inl ⟨rfl,_,SqL.of e8p⟩,_,rfl,_,rfl,d,lo,l,rest',rfl,p8,e8l,nd,nl,hrne,by omega,fun i9 hi9 H9 e9 p9 o9=>?_⟩
   refine ⟨_,rfl,d,lo,rfl,p9,fun tx H10 htx gtx p10 o10=>?_⟩
   refine ⟨_,rfl,smn 3,fun tp htp=>?_⟩
   have k9:=fO p8 e8l o9
   have k10:=bI p9 o10
   have e10p:H10 lp=_:=o10 lp _ (o9 lp _ e8p npd npl npL) npd npl
   have e10s:H10 lS=_:=o10 lS _ (o9 lS _ e8s nSd nSl nSn) nSd nSl
   have e10r:H10 lR=_:=o10 lR _ (o9 lR _ e8r nRd nRl nRn) nRd nRl
   have e10L:H10 lL=_:=o10 lL _ (o9 lL _ e8L nLd nLl nLn) nLd nLl
   have e10l:H10 l=_:=o10 l _ e9 nd nl
   have s11:=aq htp (.tup [mkT rest'[i9],.str ⟨tx.toArray⟩,.ref q8])
   have kA:∀ (b:Addr) (vs:List V),H6 b=some (.tup vs)→H10 b=some (.tup vs):=fun b vs e=>k10 b vs (k9 b vs (k8 b vs (k7 b vs e)))
   have kT:=dD (zs:=ws++[.ref tp]) (s11 _ _ e10p)
   refine ⟨lp,ws,_,rfl,rfl,s11 _ _ e10p,?_,?_⟩
   ·have:=dw6.len
    rw [List.length_map] at this
    exact aN (by omega)
   ·refine ⟨_,_,ws++[.ref tp],qs++[(rest'[i9],tx,ms)],rest'.eraseIdx i9,rfl,(p10.same s11).upd npd npl,(aG npL.symm).trans (s11 _ _ e10l),(aG nps.symm).trans (s11 _ _ e10s),(aG npr.symm).trans (s11 _ _ e10r),(aG npk.symm).trans (s11 _ _ e10L),kT _ _ (s11 _ _ (kA _ _ e6t)),ak,((dn6.keepT kA).same s11).keepT kT,?_,by rw [List.length_append,hql]; rfl,?_,?_,?_,?_⟩
    ·rw [List.map_append]
     refine cg.snoc (Den.keepT kT (show Den (upd H10 tp (.tup [mkT rest'[i9],.str ⟨tx.toArray⟩,.ref q8])) (.ref tp) (bG (rest'[i9],tx,ms)) from ⟨tp,_,rfl,ak,rfl,rfl,⟨q8,_,rfl,s11 _ _ (k10 _ _ (k9 _ _ e8q)),qG _ ms⟩,trivial⟩)) (((dw6.keepT kA).same s11).keepT kT)
    ·intro p hp'
     rcases List.mem_append.mp hp' with z | z
     ·exact hqg p z
     ·rw [List.mem_singleton.mp z]
      refine ⟨r70.nm _ (hpm6.mem_iff.mpr (List.mem_append_right _ (List.getElem_mem hi9))),by show tx.length≤_; omega,gtx,gm,fun z=>?_,by show ms.length≤13; omega⟩
      have:ms=[]:=z
      rw [this] at hml
      simp at hml
      omega
    ·intro j' a' h
     obtain ⟨L,h1,h2⟩:=hak6 j' a' h
     obtain ⟨_,_,_,g1,g2,g3,_⟩:=hak j' a' h
     exact ⟨L,h1,(aG (nap j' a' h)).trans (s11 _ _ (o10 a' _ (o9 a' _ (o8 a' _ (o7 a' _ h2 g1 g2) g1 g2) g1 g2 g3) g1 g2))⟩
    ·refine hpm6.trans ?_
     rw [List.map_append,List.append_assoc,List.append_assoc,List.append_assoc]
     exact ((gU hi9).append_left _).append_left _
    ·exact pJ ((Fy ((o6.trans o7).trans o8) hlH o9).trans (o10.trans (Old.of s11))) hlpH
  ·rintro σ H6 ⟨v7,v8,ws,qs,rest',rfl,p6,e6l,e6s,e6r,e6L,e6t,e6p,dn6,dw6,hql,hqg,hak6,hpm6,o6⟩
   have hq7:7≤qs.length∧qs.length≤19:=by omega
   refine ⟨_,rfl,.inl ⟨rfl,_,SqL.of e6s⟩,_,rfl,lp,_,rfl,.inl ⟨SqL.of e6p,fun q hq=>?_⟩⟩
   have s7:=aq hq (.tup ws)
   have hul:us.length < 1000:=by
    have:=dn6.len
    rw [List.length_map] at this
    omega
   refine ⟨lS,us,_,rfl,rfl,s7 _ _ e6s,aN (Nat.le_of_lt hul),?_⟩
   have kT:=dD (zs:=us++[.ref q]) (s7 _ _ e6s)
   have e7s:(upd (upd H6 q (.tup ws)) lS (.lst (us++[.ref q]))) lS=some (.lst (us++[.ref q])):=ak
   have p7:bQ d lo (upd (upd H6 q (.tup ws)) lS (.lst (us++[.ref q]))):=(p6.same s7).upd nSd nSl
   have e7l:(upd (upd H6 q (.tup ws)) lS (.lst (us++[.ref q]))) l=_:=(aG nSn.symm).trans (s7 _ _ e6l)
   have e7r:(upd (upd H6 q (.tup ws)) lS (.lst (us++[.ref q]))) lR=_:=(aG nRS).trans (s7 _ _ e6r)
   have e7L:(upd (upd H6 q (.tup ws)) lS (.lst (us++[.ref q]))) lL=_:=(aG nLS).trans (s7 _ _ e6L)
   have e7p:(upd (upd H6 q (.tup ws)) lS (.lst (us++[.ref q]))) lp=_:=(aG nps).trans (s7 _ _ e6p)
   have e7t:=kT _ _ (s7 _ _ e6t)
   have dn7:cg (upd (upd H6 q (.tup ws)) lS (.lst (us++[.ref q]))) (us++[.ref q]) ((Ps++[qs]).map fun L=>D.tup (L.map bG)):=by
    rw [List.map_append]
    exact cg.snoc (Den.keepT kT (show Den (upd H6 q (.tup ws)) (.ref q) (.tup (qs.map bG)) from ⟨q,ws,rfl,ak,dw6.same s7⟩)) ((dn6.same s7).keepT kT)
   have dw7:cg (upd (upd H6 q (.tup ws)) lS (.lst (us++[.ref q]))) ws (qs.map bG):=(dw6.same s7).keepT kT
   have hak7:∀ (j:Nat) (a:Addr),as[j]?=some a→∃ L:List Prt,Ps[j]?=some L∧(upd (upd H6 q (.tup ws)) lS (.lst (us++[.ref q]))) a=some (.lst ((L.map (·.1)).map mkT)):=fun j a h=>by
    obtain ⟨L,h1,h2⟩:=hak6 j a h
    obtain ⟨_,_,_,_,_,_,g4,_⟩:=hak j a h
    exact ⟨L,h1,(aG g4).trans (s7 _ _ h2)⟩
   have o7:Old d lo H (upd (upd H6 q (.tup ws)) lS (.lst (us++[.ref q]))):=pJ (o6.trans (Old.of s7)) hSH
   generalize upd (upd H6 q (.tup ws)) lS (.lst (us++[.ref q]))=H7 at e7s p7 e7l e7r e7L e7p e7t dn7 dw7 hak7 o7
   refine ⟨_,rfl,.inl ⟨rfl,_,SqL.of e7r⟩,_,rfl,lp,rfl,⟨_,SqL.of e7p⟩,fun lc hlc=>?_⟩
   have hwl:=dw7.len
   rw [List.length_map] at hwl
   refine gK (J:=Itl K lp) (l:=lc) ws.length (fun i σ' H'=>∃ (v:Option V),σ'=[v]∧Same H7 H'∧H' lc=some (.lst (((qs.take i).map (·.1)).map mkT))) ⟨none,rfl,aq hlc _,ak⟩ ?_ ?_
   ·rintro σ' H8 ⟨v,rfl,s8,e8⟩
    rw [hwl,List.take_length] at e8
    refine ⟨⟨_,SqL.of (s8 _ _ e7p),Nat.le_refl _⟩,?_⟩
    obtain ⟨ncd,ncl⟩:=p7.ne hlc
    have ncr:lc≠lR:=(aD e7r hlc).symm
    refine ⟨lR,_,_,rfl,rfl,s8 _ _ e7r,aN (by rw [List.length_map]; omega),?_⟩
    have kU:=dD (zs:=as.map V.ref++[.ref lc]) (s8 _ _ e7r)
    refine ⟨_,_,_,_,us++[.ref q],Ps++[qs],rest',as++[lc],rfl,(p7.same s8).upd nRd nRl,(aG nRn.symm).trans (s8 _ _ e7l),(aG nRS.symm).trans (s8 _ _ e7s),by rw [ak,List.map_append]; rfl,(aG nLR).trans (s8 _ _ e7L),kU _ _ (s8 _ _ e7t),(dn7.same s8).keepT kU,by rw [List.length_append,hPl]; rfl,by rw [List.length_append,hal]; rfl,?_,?_,fun L hL=>?_,?_,pJ (o7.trans (Old.of s8)) hRH⟩
    ·rw [List.nodup_append]
     refine ⟨hand,by simp,fun a ha b hb=>?_⟩
     rw [List.mem_singleton.mp hb]
     obtain ⟨j,hj⟩:=List.mem_iff_getElem?.mp ha
     obtain ⟨_,_,h2⟩:=hak7 j a hj
     exact aD h2 hlc
    ·intro j a h
     by_cases hja:j < as.length
     ·rw [List.getElem?_append_left hja] at h
      obtain ⟨L,h1,h2⟩:=hak7 j a h
      obtain ⟨_,_,_,g⟩:=hak j a h
      refine ⟨L,?_,(aG g.2.2.2.2.1).trans (s8 _ _ h2),g⟩
      rw [List.getElem?_append_left (by omega)]
      exact h1
     ·rw [List.getElem?_append_right (by omega)] at h
      have hj0:j - as.length=0:=by
       have:=(List.getElem?_eq_some_iff.mp h).1
       simp at this
       omega
      rw [hj0] at h
      have ea:a=lc:=(Option.some.inj h).symm
      subst ea
      refine ⟨qs,?_,(aG ncr).trans e8,ncd,ncl,(aD e7l hlc).symm,(aD e7s hlc).symm,ncr,(aD e7L hlc).symm,none_of o7 p7 hlc⟩
      rw [List.getElem?_append_right (by omega),show j - Ps.length=0 by omega]
      rfl
    ·rcases List.mem_append.mp hL with z | z
     ·exact hPg L z
     ·rw [List.mem_singleton.mp z]
      exact ⟨hq7.1,hq7.2,hqg⟩
    ·rw [List.flatten_append,List.map_append]
     simpa using hpm6
   ·rintro i' σ' H8 hi' ⟨v,rfl,s8,e8⟩
    have hat':ws[i']?=some ws[i']:=List.getElem?_eq_getElem hi'
    refine ⟨⟨_,_,SqL.of (s8 _ _ e7p),hat'⟩,?_⟩
    rintro y' H'' ⟨rfl,hy⟩
    have ey:y'=ws[i']:=Option.some.inj ((hy _ (SqL.of (s8 _ _ e7p))).symm.trans hat')
    have hni:i' < qs.length:=by omega
    obtain ⟨dd,hdd,dy⟩:=dw7.at_ hat'
    rw [← ey] at dy
    rw [List.getElem?_map,List.getElem?_eq_getElem hni] at hdd
    have edd:bG qs[i']=dd:=Option.some.inj hdd
    subst edd
    obtain ⟨b,bs,eb,hb,hbd⟩:=aQ (dy.same s8)
    obtain ⟨c0,cs,rfl⟩:∃ c0 cs,bs=c0 :: cs:=by
     cases bs with
     | nil=>exact hbd.elim
     | cons c0 cs=>exact ⟨c0,cs,rfl⟩
    have ec:c0=mkT qs[i'].1:=hbd.1
    subst ec
    refine gN (vf (rR ?_))
    refine ⟨_,rfl,b,_,_,_,eb,rfl,SqT.of hb,aR _ _,_,e8,?_,_,rfl,?_,?_⟩
    ·rw [List.length_map,List.length_map,List.length_take]
     exact aN (by omega)
    ·intro c o z
     have hlH:H7 lc=none:=hlc
     rw [aG (aD z hlH)]
     exact s8 c o z
    ·rw [ak,List.take_add_one,List.getElem?_eq_getElem hni,List.map_append,List.map_append]
     rfl
 ·rintro σ H4 ⟨v5,v6,v7,v8,us,Ps,rest,as,rfl,p4,e4l,e4s,e4r,e4L,e4t,dn,hPl,hal,hand,hak,hPg,hpm,o4⟩
  obtain ⟨L,R,rfl⟩:∃ L R,Ps=[L,R]:=by
   match Ps,hPl with
   | [L,R],_=>exact ⟨L,R,rfl⟩
  obtain ⟨r0,r1,rfl⟩:∃ r0 r1,as=[r0,r1]:=by
   match as,hal with
   | [a,b],_=>exact ⟨a,b,rfl⟩
  obtain ⟨L',eL',h0,z0d,z0l,_,z0S,z0R,z0L,z0H⟩:=hak 0 r0 rfl
  obtain ⟨R',eR',h1,z1d,z1l,_,z1S,z1R,z1L,z1H⟩:=hak 1 r1 rfl
  have eLL:L'=L:=(Option.some.inj eL').symm
  have eRR:R'=R:=(Option.some.inj eR').symm
  rw [eLL] at h0
  rw [eRR] at h1
  have n01:r0≠r1:=fun z=>by
   rw [z] at hand
   simp at hand
  have hL7:=hPg L (.head _)
  have hR7:=hPg R (.tail _ (.head _))
  have hndx:((L++R).map (·.1)).Nodup:=by
   have:=hpm.nodup_iff.mp r70.nd
   have e:([L,R].flatten).map (·.1)=(L++R).map (·.1):=by simp
   rw [e] at this
   exact this.sublist (List.sublist_append_left _ _)
  have hqzx:NG ((L++R).map (·.1)):=fun x z=>hqz x (hpm.mem_iff.mpr (List.mem_append_left _ (by
   have e:([L,R].flatten).map (·.1)=(L++R).map (·.1):=by simp
   rw [e]
   exact z)))
  clear hak hand hal hPl hPg hpm eL' eR' e4t
  have ndL:(L.map (·.1)).Nodup:=(by rw [List.map_append] at hndx; exact hndx.sublist (List.sublist_append_left _ _))
  have ndR:(R.map (·.1)).Nodup:=(by rw [List.map_append] at hndx; exact hndx.sublist (List.sublist_append_right _ _))
  have nmL:∀ x∈L.map (·.1),isNm ⟨x.toArray⟩=true:=fun x hx=>by
   obtain ⟨q,hq,rfl⟩:=List.mem_map.mp hx
   exact (hL7.2.2 q hq).1
  have nmR:∀ x∈R.map (·.1),isNm ⟨x.toArray⟩=true:=fun x hx=>by
   obtain ⟨q,hq,rfl⟩:=List.mem_map.mp hx
   exact (hR7.2.2 q hq).1
  refine ⟨2,rfl,by decide,by decide,?_⟩
  refine jC (lo:=0) (n:=2) (fun i σ H5=>∃ (v5 v7 v9 v10 v11:Option V) (ws:List V) (ks:List Lnk) (m0 m1:Nms),σ=[some (.ref d),some (.ref l),some (.ref lS),some (.ref lR),some (.ref lL),v5,v6,v7,v8,v9,v10,v11,none]∧bQ d lo H5∧H5 lS=some (.lst us)∧H5 lR=some (.lst [.ref r0,.ref r1])∧H5 lL=some (.lst ws)∧cg H5 us ([L,R].map fun L=>D.tup (L.map bG))∧cg H5 ws (ks.map bK)∧H5 r0=some (.lst (m0.map mkT))∧H5 r1=some (.lst (m1.map mkT))∧ks.length=i∧(∀ q∈ks,J3 q)∧(L.map (·.1)).Perm (ks.flatMap (·.1)++m0)∧(R.map (·.1)).Perm (ks.flatMap (·.2.1)++m1)∧Old d lo H H5)
   ⟨_,_,_,_,_,[],[],L.map (·.1),R.map (·.1),rfl,p4,e4s,e4r,e4L,dn,trivial,h0,h1,rfl,(fun q hq=>by cases hq),List.Perm.refl _,List.Perm.refl _,o4⟩ ?_ ?_
  ·rintro i σ H5 hi ⟨v5,v7,v9,v10,v11,ws,ks,m0,m1,rfl,p5,e5s,e5r,e5L,dn5,dw5,h50,h51,hkl,hkg,hpm0,hpm1,o5⟩
   have zz:lS≠d∧lS≠lo∧lR≠d∧lR≠lo∧lL≠d∧lL≠lo:=⟨nSd,nSl,nRd,nRl,nLd,nLl⟩
   have kp5:Kp d lo lS lR lL r0 r1 us ws ([L,R].map fun L=>D.tup (L.map bG)) (ks.map bK) H H5:=⟨p5,e5s,e5r,e5L,dn5,dw5,o5⟩
   refine gN ⟨smn 0,fun lP hlP=>gN ⟨smn 2,fun t2 ht2=>?_⟩⟩
   obtain ⟨nPd,nPl⟩:=p5.ne hlP
   have nPS:lP≠lS:=(aD e5s hlP).symm
   have nPR:lP≠lR:=(aD e5r hlP).symm
   have nPL:lP≠lL:=(aD e5L hlP).symm
   have nP0:lP≠r0:=(aD h50 hlP).symm
   have nP1:lP≠r1:=(aD h51 hlP).symm
   have hPH:=none_of o5 p5 hlP
   have s1:=aq hlP (.lst [])
   have s2:=aq ht2 (.tup [.int 0,.int 1])
   have eP:(upd (upd H5 lP (.lst [])) t2 (.tup [.int 0,.int 1])) lP=some (.lst []):=s2 _ _ ak
   have eT2:(upd (upd H5 lP (.lst [])) t2 (.tup [.int 0,.int 1])) t2=some (.tup [.int 0,.int 1]):=ak
   have s12:=s1.trans s2
   generalize upd (upd H5 lP (.lst [])) t2 (.tup [.int 0,.int 1])=H6 at eP eT2 s12
   have kp6:=kp5.same s12
   refine ⟨t2,rfl,⟨_,SqT.of eT2⟩,?_⟩
   refine mK (K:=K) (a:=t2) (xs:=[.int 0,.int 1]) (fun j σ H7=>∃ (v5 v10:Option V) (pw:List V) (ns:List Nms) (b0 b1:Nms),σ=[some (.ref d),some (.ref l),some (.ref lS),some (.ref lR),some (.ref lL),v5,v6,some (.int (0+(i:Nat))),v8,some (.ref lP),v10,v11,none]∧Kp d lo lS lR lL r0 r1 us ws ([L,R].map fun L=>D.tup (L.map bG)) (ks.map bK) H H7∧H7 t2=some (.tup [.int 0,.int 1])∧H7 lP=some (.lst pw)∧cg H7 pw (ns.map eU)∧ns.length=j∧(∀ n∈ns,n.length=2∧vY n)∧H7 r0=some (.lst (b0.map mkT))∧H7 r1=some (.lst (b1.map mkT))∧m0.Perm ((ns[0]?).getD []++b0)∧m1.Perm ((ns[1]?).getD []++b1)) ⟨_,_,[],[],m0,m1,rfl,kp6,eT2,eP,trivial,rfl,(fun n hn=>by cases hn),s12 _ _ h50,s12 _ _ h51,List.Perm.refl _,List.Perm.refl _⟩ ?_ ?_ ?_
   ·rintro j σ H7 _ ⟨v5,v10,pw,ns,b0,b1,rfl,_,e,_⟩
    exact SqT.of e
   ·rintro j y σ H7 hj ⟨v5,v10,pw,ns,b0,b1,rfl,kp7,e7t,e7P,dp7,hnl,hng,h70,h71,hq0,hq1⟩
    have hj2:j < 2:=(List.getElem?_eq_some_iff.mp hj).1
    have lm0:3≤m0.length:=by
     have:=hpm0.length_eq
     rw [List.length_map,List.length_append,List.length_flatMap] at this
     have h2:(ks.map fun q=>q.1.length).sum≤2 * i:=by
      rw [← hkl]
      clear this hpm0 hpm1 dw5 kp5 kp6 kp7 hkl
      induction ks with
      | nil=>simp
      | cons q ks ih =>
       have:=ih fun q hq=>hkg q (.tail _ hq)
       have hq:=(hkg q (.head _)).1
       simp only [List.map_cons,List.sum_cons,List.length_cons]
       omega
     omega
    have lm1:3≤m1.length:=by
     have:=hpm1.length_eq
     rw [List.length_map,List.length_append,List.length_flatMap] at this
     have h2:(ks.map fun q=>q.2.1.length).sum≤2 * i:=by
      rw [← hkl]
      clear this hpm0 hpm1 dw5 kp5 kp6 kp7 hkl
      induction ks with
      | nil=>simp
      | cons q ks ih =>
       have:=ih fun q hq=>hkg q (.tail _ hq)
       have hq:=(hkg q (.head _)).2.1
       simp only [List.map_cons,List.sum_cons,List.length_cons]
       omega
     omega
    have um0:m0.Nodup∧(∀ x∈m0,isNm ⟨x.toArray⟩=true)∧m0.length≤19:=⟨(hpm0.nodup_iff.mp ndL).sublist (List.sublist_append_right _ _),fun x hx=>nmL x (hpm0.mem_iff.mpr (List.mem_append_right _ hx)),by
     have:=hpm0.length_eq
     rw [List.length_map,List.length_append] at this
     omega⟩
    have um1:m1.Nodup∧(∀ x∈m1,isNm ⟨x.toArray⟩=true)∧m1.length≤19:=⟨(hpm1.nodup_iff.mp ndR).sublist (List.sublist_append_right _ _),fun x hx=>nmR x (hpm1.mem_iff.mpr (List.mem_append_right _ hx)),by
     have:=hpm1.length_eq
     rw [List.length_map,List.length_append] at this
     omega⟩
    obtain ⟨rS,rO,bS,bO,ey,hat,h7S,h7O,nSO,zS,lbS,uS,hfin⟩:∃ (rS rO:Addr) (bS bO:Nms),y=.int (j:Nat)∧atI [V.ref r0,V.ref r1] (j:Nat)=some (.ref rS)∧H7 rS=some (.lst (bS.map mkT))∧H7 rO=some (.lst (bO.map mkT))∧rO≠rS∧(rS≠d∧rS≠lo∧rS≠lS∧rS≠lR∧rS≠lL∧rS≠lP∧H rS=none∧rO≠d∧rO≠lo∧rO≠lP)∧3≤bS.length∧(bS.Nodup∧(∀ x∈bS,isNm ⟨x.toArray⟩=true)∧bS.length≤19) ∧
      ∀ (tk ms bS':Nms) (HX:Hp),bS.Perm (tk++bS')→ms.Perm tk→HX rS=some (.lst (bS'.map mkT))→HX rO=some (.lst (bO.map mkT))→∃ (c0 c1:Nms),HX r0=some (.lst (c0.map mkT))∧HX r1=some (.lst (c1.map mkT))∧m0.Perm (((ns++[ms])[0]?).getD []++c0)∧m1.Perm (((ns++[ms])[1]?).getD []++c1):=by
     match j,hj2,hj,hnl with
     | 0,_,hj,hnl =>
      have:ns=[]:=List.eq_nil_of_length_eq_zero hnl
      subst this
      have q0:m0.Perm b0:=hq0
      refine ⟨r0,r1,b0,b1,(Option.some.inj hj).symm,aR _ _,h70,h71,n01.symm,⟨z0d,z0l,z0S,z0R,z0L,nP0.symm,z0H,z1d,z1l,nP1.symm⟩,by rw [← q0.length_eq]; exact lm0,⟨q0.nodup_iff.mp um0.1,fun x hx=>um0.2.1 x (q0.mem_iff.mpr hx),by rw [← q0.length_eq]; exact um0.2.2⟩,fun tk ms bS' HX hb hm hx0 hx1=>⟨bS',b1,hx0,hx1,(q0.trans hb).trans (hm.symm.append_right _),hq1⟩⟩
     | 1,_,hj,hnl =>
      obtain ⟨n0,rfl⟩:∃ n0,ns=[n0]:=by
       match ns,hnl with
       | [n0],_=>exact ⟨n0,rfl⟩
      have q1:m1.Perm b1:=hq1
      refine ⟨r1,r0,b1,b0,(Option.some.inj hj).symm,aJ (xs:=[V.ref r0,V.ref r1]) (j:=1) rfl,h71,h70,n01,⟨z1d,z1l,z1S,z1R,z1L,nP1.symm,z1H,z0d,z0l,nP0.symm⟩,by rw [← q1.length_eq]; exact lm1,⟨q1.nodup_iff.mp um1.1,fun x hx=>um1.2.1 x (q1.mem_iff.mpr hx),by rw [← q1.length_eq]; exact um1.2.2⟩,fun tk ms bS' HX hb hm hx0 hx1=>⟨b0,bS',hx1,hx0,hq0,(q1.trans hb).trans (hm.symm.append_right _)⟩⟩
    rw [ey]
    refine gN ⟨smn 2,fun t3 h3=>⟨t3,rfl,⟨_,SqT.of ak⟩,fun lc hlc=>?_⟩⟩
    have s3:=aq h3 (.tup [.int 0,.int 1])
    have kp8:=kp7.same s3
    have e8t3:(upd H7 t3 (.tup [.int 0,.int 1])) t3=some (.tup [.int 0,.int 1]):=ak
    have e8t:=s3 _ _ e7t
    have e8P:=s3 _ _ e7P
    have dp8:=dp7.same s3
    have h8S:=s3 _ _ h7S
    have h8O:=s3 _ _ h7O
    generalize upd H7 t3 (.tup [.int 0,.int 1])=H8 at kp8 e8t3 e8t e8P dp8 h8S h8O hlc
    obtain ⟨ncd,ncl⟩:=kp8.p.ne hlc
    have ncz:lc≠d∧lc≠lo∧lc≠lS∧lc≠lR∧lc≠lL:=⟨ncd,ncl,(aD kp8.s hlc).symm,(aD kp8.r hlc).symm,(aD kp8.l hlc).symm⟩
    have ncP:lc≠lP:=(aD e8P hlc).symm
    have ncS:lc≠rS:=(aD h8S hlc).symm
    have ncO:lc≠rO:=(aD h8O hlc).symm
    have hcH:=none_of kp8.o kp8.p hlc
    have s4:=aq hlc (.lst [])
    refine gK (J:=Itt K t3) (l:=lc) 2 (fun e σ' H9=>∃ (v:Option V) (tk bS':Nms),σ'=[some (.ref d),some (.ref lR),some (.int (j:Nat)),v]∧Kp d lo lS lR lL r0 r1 us ws ([L,R].map fun L=>D.tup (L.map bG)) (ks.map bK) H H9∧H9 t3=some (.tup [.int 0,.int 1])∧H9 t2=some (.tup [.int 0,.int 1])∧H9 lP=some (.lst pw)∧cg H9 pw (ns.map eU)∧H9 lc=some (.lst (tk.map mkT))∧tk.length=e∧H9 rS=some (.lst (bS'.map mkT))∧H9 rO=some (.lst (bO.map mkT))∧bS.Perm (tk++bS')) ⟨none,[],bS,rfl,kp8.same s4,s4 _ _ e8t3,s4 _ _ e8t,s4 _ _ e8P,dp8.same s4,ak,rfl,s4 _ _ h8S,s4 _ _ h8O,List.Perm.refl _⟩ ?_ ?_
    rotate_left
    ·rintro e σ' H9 he ⟨v,tk,bS',rfl,kp9,e9t3,e9t,e9P,dp9,e9c,htl,h9S,h9O,hpb⟩
     have hat':([.int 0,.int 1]:List V)[e]?=some (([.int 0,.int 1]:List V)[e]'he):=List.getElem?_eq_getElem he
     refine ⟨⟨_,_,SqT.of e9t3,hat'⟩,?_⟩
     rintro y' H'' ⟨rfl,_⟩
     have hbl:bS'.length+e=bS.length:=by
      have:=hpb.length_eq
      rw [List.length_append] at this
      omega
     have hbne:bS'≠[]:=fun z=>by
      rw [z] at hbl
      simp at hbl
      omega
     refine gN (vf (rR ?_))
     refine ⟨_,rfl,_,rfl,_,rfl,lR,_,_,_,rfl,rfl,SqL.of kp9.r,hat,?_⟩
     refine ⟨d,lo,rS,bS',rfl,kp9.p,h9S,zS.1,zS.2.1,hbne,by omega,fun i9 hi9 H10 e10 p10 o10=>?_⟩
     have e10c:H10 lc=some (.lst (tk.map mkT)):=o10 _ _ e9c ncd ncl ncS
     have kp10:=kp9.old3 zz h9S zS.2.2.2.2.2.2.1 ⟨zS.2.2.1,zS.2.2.2.1,zS.2.2.2.2.1⟩ p10 o10
     have kA:=fO kp9.p h9S o10
     have kB:=dD (zs:=tk.map mkT++[mkT bS'[i9]]) e10c
     refine ⟨_,e10c,aN (by rw [List.length_map]; omega),_,tk++[bS'[i9]],bS'.eraseIdx i9,rfl,kp10.upd e10c hcH ncz,kB _ _ (kA _ _ e9t3),kB _ _ (kA _ _ e9t),(aG ncP.symm).trans (o10 _ _ e9P nPd nPl zS.2.2.2.2.2.1.symm),(dp9.keepT kA).keepT kB,by rw [ak,List.map_append]; rfl,by rw [List.length_append,htl]; rfl,(aG ncS.symm).trans e10,(aG ncO.symm).trans (o10 _ _ h9O zS.2.2.2.2.2.2.2.1 zS.2.2.2.2.2.2.2.2.1 nSO),?_⟩
     rw [List.append_assoc]
     exact hpb.trans ((gU hi9).append_left _)
    rintro σ' H9 ⟨v,tk,bS',rfl,kp9,e9t3,e9t,e9P,dp9,e9c,htl,h9S,h9O,hpb⟩
    refine ⟨⟨_,SqT.of e9t3,Nat.le_refl _⟩,?_⟩
    have ndt:tk.Nodup:=(hpb.nodup_iff.mp uS.1).sublist (List.sublist_append_left _ _)
    have nmt:∀ x∈tk,isNm ⟨x.toArray⟩=true:=fun x hx=>uS.2.1 x (hpb.mem_iff.mpr (List.mem_append_left _ hx))
    refine ⟨_,rfl,.inl ⟨rfl,_,SqL.of e9P⟩,_,rfl,lc,_,tk.map sD,rfl,.inl (SqL.of e9c),iG _ tk,rP tk,by rw [List.length_map,htl]; decide,yO tk,fun l10 u10 d10 h10 pm up den=>?_⟩
    obtain ⟨ms,ems,pms,gms⟩:=kJ pm up ndt nmt
    rw [ems] at den
    obtain rfl:=vU den
    refine ⟨l10,_,rfl,.inl ⟨SqL.of ak,fun q11 h11=>?_⟩⟩
    have s10:=aq h10 (.lst (ms.map mkT))
    have s11:=aq h11 (.tup (ms.map mkT))
    have e11:(upd (upd H9 l10 (.lst (ms.map mkT))) q11 (.tup (ms.map mkT))) q11=some (.tup (ms.map mkT)):=ak
    have sA:=s10.trans s11
    generalize upd (upd H9 l10 (.lst (ms.map mkT))) q11 (.tup (ms.map mkT))=H11 at e11 sA
    have e11P:=sA _ _ e9P
    have hpwl:pw.length < 1000:=by
     have:=dp9.len
     rw [List.length_map] at this
     omega
    refine ⟨lP,pw,_,rfl,rfl,e11P,aN (Nat.le_of_lt hpwl),?_⟩
    have kB:=dD (zs:=pw++[.ref q11]) e11P
    have n2:∀ n∈ns++[ms],n.length=2∧vY n:=fun n hn=>by
     rcases List.mem_append.mp hn with z | z
     ·exact hng n z
     ·rw [List.mem_singleton.mp z]
      exact ⟨by rw [pms.length_eq,htl],gms⟩
    obtain ⟨c0,c1,g0,g1,g2,g3⟩:=hfin tk ms bS' (upd H11 lP (.lst (pw++[.ref q11]))) hpb pms ((aG zS.2.2.2.2.2.1).trans (sA _ _ h9S)) ((aG zS.2.2.2.2.2.2.2.2.2).trans (sA _ _ h9O))
    refine ⟨_,_,pw++[.ref q11],ns++[ms],c0,c1,rfl,(kp9.same sA).upd e11P hPH ⟨nPd,nPl,nPS,nPR,nPL⟩,kB _ _ (sA _ _ e9t),ak,?_,by rw [List.length_append,hnl]; rfl,n2,g0,g1,g2,g3⟩
    rw [List.map_append]
    exact cg.snoc (Den.keepT kB (show Den H11 (.ref q11) (eU ms) from ⟨q11,_,rfl,e11,iG _ ms⟩)) ((dp9.same sA).keepT kB)
   ·rintro σ H7 ⟨v5,v10,pw,ns,b0,b1,rfl,kp7,e7t,e7P,dp7,hnl,hng,h70,h71,hq0,hq1⟩
    obtain ⟨na,nb,rfl⟩:∃ na nb,ns=[na,nb]:=by
     match ns,hnl with
     | [na,nb],_=>exact ⟨na,nb,rfl⟩
    obtain ⟨va,vb,rfl⟩:∃ va vb,pw=[va,vb]:=by
     match pw,dp7.len with
     | [va,vb],_=>exact ⟨va,vb,rfl⟩
    have gna:=hng na (.head _)
    have gnb:=hng nb (.tail _ (.head _))
    have q0:m0.Perm (na++b0):=hq0
    have q1:m1.Perm (nb++b1):=hq1
    refine ⟨_,rfl,_,rfl,d,lo,3,rfl,kp7.p,by decide,by decide,fun c H8 c0 c1 p8 o8=>?_⟩
    obtain ⟨cn,rfl⟩:=Int.eq_ofNat_of_zero_le c0
    refine ⟨d,lo,cn,rfl,p8,by omega,fun q9 f1 H9 e9 g1 hl1 p9 o9=>?_⟩
    refine ⟨_,rfl,_,rfl,d,lo,3,rfl,p9,by decide,by decide,fun c H10 c0 c1 p10 o10=>?_⟩
    obtain ⟨cm,rfl⟩:=Int.eq_ofNat_of_zero_le c0
    refine ⟨d,lo,cm,rfl,p10,by omega,fun q11 f2 H11 e11 g2 hl2 p11 o11=>?_⟩
    refine ⟨smn 2,fun a12 h12=>gN ?_⟩
    have oA:=((o8.trans o9).trans o10).trans o11
    have kp11:=kp7.old zz p11 oA
    have e11P:H11 lP=some (.lst [va,vb]):=oA _ _ e7P nPd nPl
    have e11q:H11 q9=some (.tup (f1.map V.int)):=bI p9 (o10.trans o11) _ _ e9
    have dp11:=dp7.keepT (bI kp7.p oA)
    have h110:H11 r0=some (.lst (b0.map mkT)):=oA _ _ h70 z0d z0l
    have h111:H11 r1=some (.lst (b1.map mkT)):=oA _ _ h71 z1d z1l
    have s12':=aq h12 (.tup [.ref q9,.ref q11])
    have e12:(upd H11 a12 (.tup [.ref q9,.ref q11])) a12=some (.tup [.ref q9,.ref q11]):=ak
    generalize upd H11 a12 (.tup [.ref q9,.ref q11])=H12 at s12' e12
    have kp12:=kp11.same s12'
    have e12P:=s12' _ _ e11P
    refine ⟨_,rfl,.inl ⟨rfl,_,SqL.of kp12.l⟩,_,rfl,lP,_,_,_,rfl,rfl,SqL.of e12P,aR _ _,_,rfl,lP,_,_,_,rfl,rfl,SqL.of e12P,aJ (xs:=[va,vb]) (j:=1) rfl,?_⟩
    refine ⟨_,rfl,d,lo,1,rfl,kp12.p,by decide,fun q13 f3 H13 e13 g3 hl3 p13 o13=>?_⟩
    obtain ⟨tm,rfl⟩:∃ tm,f3=[tm]:=by
     match f3,hl3 with
     | [tm],_=>exact ⟨tm,rfl⟩
    refine ⟨q13,_,_,_,rfl,rfl,SqT.of e13,aR _ _,_,rfl,smn 4,fun tp htp=>?_⟩
    have kp13:=kp12.old zz p13 o13
    have s14:=aq htp (.tup [va,vb,.int tm,.ref a12])
    have e14L:=s14 _ _ kp13.l
    have hwl:ws.length < 1000:=by
     have:=kp13.dw.len
     rw [List.length_map] at this
     omega
    refine ⟨lL,ws,_,rfl,rfl,e14L,aN (Nat.le_of_lt hwl),?_⟩
    have kB:=dD (zs:=ws++[.ref tp]) e14L
    have kO:=bI kp12.p o13
    have dlk:Den (upd H13 tp (.tup [va,vb,.int tm,.ref a12])) (.ref tp) (bK (na,nb,tm,f1,f2)):=⟨tp,_,rfl,ak,((dp11.same s12').keepT kO |>.same s14).1,((dp11.same s12').keepT kO |>.same s14).2.1,rfl,⟨a12,_,rfl,s14 _ _ (kO _ _ e12),⟨q9,_,rfl,s14 _ _ (kO _ _ (s12' _ _ e11q)),qG _ _⟩,⟨q11,_,rfl,s14 _ _ (kO _ _ (s12' _ _ e11)),qG _ _⟩,trivial⟩,trivial⟩
    refine ⟨_,_,_,_,_,ws++[.ref tp],ks++[(na,nb,tm,f1,f2)],b0,b1,rfl,(kp13.p.same s14).upd nLd nLl,(aG nLS.symm).trans (s14 _ _ kp13.s),(aG nLR.symm).trans (s14 _ _ kp13.r),ak,(kp13.dn.same s14).keepT kB,?_,(aG z0L).trans (s14 _ _ (o13 _ _ (s12' _ _ h110) z0d z0l)),(aG z1L).trans (s14 _ _ (o13 _ _ (s12' _ _ h111) z1d z1l)),by rw [List.length_append,hkl]; rfl,?_,?_,?_,pJ (kp13.o.trans (Old.of s14)) hLH⟩
    ·rw [List.map_append]
     exact cg.snoc (Den.keepT kB dlk) ((kp13.dw.same s14).keepT kB)
    ·intro q hq
     rcases List.mem_append.mp hq with z | z
     ·exact hkg q z
     ·rw [List.mem_singleton.mp z]
      exact ⟨gna.1,gnb.1,gna.2,gnb.2,(g3.1 tm (.head _)).1,(g3.1 tm (.head _)).2,g1,g2,by show f1.length≤13; omega,by show f2.length≤13; omega⟩
    ·rw [List.flatMap_append,List.append_assoc]
     refine hpm0.trans (List.Perm.append_left _ ?_)
     simpa using q0
    ·rw [List.flatMap_append,List.append_assoc]
     refine hpm1.trans (List.Perm.append_left _ ?_)
     simpa using q1
  ·rintro σ H5 ⟨v5,v7,v9,v10,v11,ws,ks,m0,m1,rfl,p5,e5s,e5r,e5L,dn5,dw5,h50,h51,hkl,hkg,hpm0,hpm1,o5⟩
   have lm0:3≤m0.length:=by
    have:=hpm0.length_eq
    rw [List.length_map,List.length_append,List.length_flatMap] at this
    match ks,hkl,hkg,this with
    | [c0,c1],_,hkg,this =>
     have g0:=(hkg c0 (.head _)).1
     have g1:=(hkg c1 (.tail _ (.head _))).1
     simp only [List.map_cons,List.map_nil,List.sum_cons,List.sum_nil] at this
     omega
   have lm1:3≤m1.length:=by
    have:=hpm1.length_eq
    rw [List.length_map,List.length_append,List.length_flatMap] at this
    match ks,hkl,hkg,this with
    | [c0,c1],_,hkg,this =>
     have g0:=(hkg c0 (.head _)).2.1
     have g1:=(hkg c1 (.tail _ (.head _))).2.1
     simp only [List.map_cons,List.map_nil,List.sum_cons,List.sum_nil] at this
     omega
   have um0:m0.length≤19:=by
    have:=hpm0.length_eq
    rw [List.length_map,List.length_append] at this
    omega
   have um1:m1.length≤19:=by
    have:=hpm1.length_eq
    rw [List.length_map,List.length_append] at this
    omega
   refine ⟨_,rfl,_,rfl,lR,_,_,_,rfl,rfl,SqL.of e5r,aR _ _,d,lo,r0,m0,rfl,p5,h50,z0d,z0l,(fun z=>by rw [z] at lm0; simp at lm0),by omega,fun i9 hi9 H6 e6 p6 o6=>?_⟩
   have e6r:H6 lR=some (.lst [.ref r0,.ref r1]):=o6 _ _ e5r nRd nRl z0R.symm
   have e61:H6 r1=some (.lst (m1.map mkT)):=o6 _ _ h51 z1d z1l n01.symm
   refine ⟨_,rfl,_,rfl,lR,_,_,_,rfl,rfl,SqL.of e6r,aJ (xs:=[V.ref r0,V.ref r1]) (j:=1) rfl,d,lo,r1,m1,rfl,p6,e61,z1d,z1l,(fun z=>by rw [z] at lm1; simp at lm1),by omega,fun j9 hj9 H7 e7 p7 o7=>?_⟩
   have k6:=fO p5 h50 o6
   have k7:=fO p6 e61 o7
   have e7s:H7 lS=some (.lst us):=o7 _ _ (o6 _ _ e5s nSd nSl z0S.symm) nSd nSl z1S.symm
   have e7L:H7 lL=some (.lst ws):=o7 _ _ (o6 _ _ e5L nLd nLl z0L.symm) nLd nLl z1L.symm
   have dn7:=(dn5.keepT k6).keepT k7
   have dw7:=(dw5.keepT k6).keepT k7
   have o7':=Fy (Fy o5 z0H o6) z1H o7
   have hx0:m0[i9]∈L.map (·.1):=hpm0.mem_iff.mpr (List.mem_append_right _ (List.getElem_mem hi9))
   have hx1:m1[j9]∈R.map (·.1):=hpm1.mem_iff.mpr (List.mem_append_right _ (List.getElem_mem hj9))
   have nda:([m0[i9],m1[j9]]:Nms).Nodup:=by
    rw [List.map_append,List.nodup_append] at hndx
    have hne:=hndx.2.2 _ hx0 _ hx1
    simp only [List.nodup_cons,List.mem_singleton,List.not_mem_nil,not_false_eq_true,List.nodup_nil,and_true]
    exact hne
   refine ⟨smn 2,fun l8 h8=>?_⟩
   have s8:=aq h8 (.lst [mkT m0[i9],mkT m1[j9]])
   have e8:(upd H7 l8 (.lst [mkT m0[i9],mkT m1[j9]])) l8=some (.lst [mkT m0[i9],mkT m1[j9]]):=ak
   generalize upd H7 l8 (.lst [mkT m0[i9],mkT m1[j9]])=H8 at s8 e8
   refine ⟨l8,_,([m0[i9],m1[j9]]:Nms).map sD,rfl,.inl (SqL.of e8),iG _ [m0[i9],m1[j9]],rP _,by show 2 < 64; decide,yO _,fun l9 u9 d9 h9 pm up den=>?_⟩
   obtain ⟨al,eal,pal,gal⟩:=kJ pm up nda (fun x hx=>by
    simp only [List.mem_cons,List.not_mem_nil,or_false] at hx
    rcases hx with rfl | rfl
    ·exact nmL _ hx0
    ·exact nmR _ hx1)
   rw [eal] at den
   obtain rfl:=vU den
   have s9:=aq h9 (.lst (al.map mkT))
   refine ⟨l9,_,rfl,.inl ⟨SqL.of ak,fun q10 h10=>gN ?_⟩⟩
   have s10:=aq h10 (.tup (al.map mkT))
   have e10:(upd (upd H8 l9 (.lst (al.map mkT))) q10 (.tup (al.map mkT))) q10=some (.tup (al.map mkT)):=ak
   have sA:=(s8.trans s9).trans s10
   generalize upd (upd H8 l9 (.lst (al.map mkT))) q10 (.tup (al.map mkT))=H10 at e10 sA
   obtain ⟨uL,uR,rfl⟩:∃ uL uR,us=[uL,uR]:=by
    match us,dn7.len with
    | [a,b],_=>exact ⟨a,b,rfl⟩
   have e10s:=sA _ _ e7s
   have e10L:=sA _ _ e7L
   have dn10:=dn7.same sA
   have dw10:=dw7.same sA
   refine ⟨_,rfl,lS,_,_,_,rfl,rfl,SqL.of e10s,aR _ _,_,rfl,lS,_,_,_,rfl,rfl,SqL.of e10s,aJ (xs:=[uL,uR]) (j:=1) rfl,?_⟩
   refine ⟨_,rfl,lL,ws,ks.map bK,rfl,.inl (SqL.of e10L),dw10,yW ks,by rw [List.length_map,hkl]; decide,fun d hd=>?_,fun l11 u11 d11 h11 pm2 up2 den2=>?_⟩
   ·obtain ⟨q,hq,rfl⟩:=List.mem_map.mp hd
    exact yG (hkg q hq)
   obtain ⟨kq,ekq,pkq⟩:=sS pm2 _ rfl
   obtain ⟨k0,k1,rfl⟩:∃ k0 k1,kq=[k0,k1]:=by
    match kq,pkq.length_eq.trans hkl with
    | [a,b],_=>exact ⟨a,b,rfl⟩
   have s11:=aq h11 (.lst u11)
   refine ⟨l11,_,rfl,.inl ⟨SqL.of ak,fun q12 h12=>?_⟩⟩
   have s12:=aq h12 (.tup u11)
   refine ⟨_,rfl,smn 4,fun q13 h13=>?_⟩
   have s13:=aq h13 (.tup [uL,uR,.ref q12,.ref q10])
   have sB:=(s11.trans s12).trans s13
   have pf0:=(pkq.symm.flatMap_right fun q:Lnk=>q.1).append_right m0
   have pf1:=(pkq.symm.flatMap_right fun q:Lnk=>q.2.1).append_right m1
   have hP0:(L.map (·.1)).Perm (k0.1++k1.1++m0[i9] :: m0.eraseIdx i9):=by
    refine (hpm0.trans pf0).trans ?_
    have:[k0,k1].flatMap (fun q:Lnk=>q.1)=k0.1++k1.1:=by simp
    rw [this]
    exact (gU hi9).append_left _
   have hP1:(R.map (·.1)).Perm (k0.2.1++k1.2.1++m1[j9] :: m1.eraseIdx j9):=by
    refine (hpm1.trans pf1).trans ?_
    have:[k0,k1].flatMap (fun q:Lnk=>q.2.1)=k0.2.1++k1.2.1:=by simp
    rw [this]
    exact (gU hj9).append_left _
   have hk2:∀ q∈[k0,k1],J3 q:=fun q hq=>hkg q (pkq.mem_iff.mp hq)
   have hup:dlt (bK k0) (bK k1)=true:=by
    have hu:dlt (bK k1) (bK k0)=false:=by
     rw [ekq] at up2
     unfold UpD at up2
     rw [List.map_cons,List.map_cons,List.map_nil,List.pairwise_cons] at up2
     exact up2.1 _ (.head _)
    cases e:dlt (bK k0) (bK k1) with
    | true=>rfl
    | false=>exact absurd (mZ _ _ e hu) (Gs (hP0.nodup_iff.mp ndL) (hk2 k0 (.head _)).1)
   refine k (.ref q13) L R k0 k1 al _ ⟨q13,_,rfl,ak,(dn10.same sB).1,(dn10.same sB).2.1,⟨q12,u11,rfl,s13 _ _ ak,by rw [← ekq]; exact ((den2.same s11).same s12).same s13⟩,⟨q10,_,rfl,sB _ _ e10,iG _ al⟩,trivial⟩ ⟨fun q hq=>?_,hL7.1,hL7.2.1,hR7.1,hR7.2.1,hndx,hqzx,hk2,hup,pal.length_eq,gal,m0[i9],m0.eraseIdx i9,hP0,m1[j9],m1.eraseIdx j9,hP1,pal⟩ ((p7.same sA).same sB) ((o7'.trans (Old.of sA)).trans (Old.of sB))
   rcases List.mem_append.mp hq with z | z
   ·exact hL7.2.2 q z
   ·exact hR7.2.2 q z
end
theorem mQ:bootBuiltins "ValueError" = some (.type "ValueError"):=by decide +kernel
def a7 (a b c d e f g:Addr):Nat→Addr
 | 0=>a
 | 1=>b
 | 2=>c
 | 3=>d
 | 4=>e
 | 5=>f
 | _=>g
structure KB (K:PySem.W.Frag) (c te:Addr):Prop where
 ek:Dp K c
 un:PySem.W.subIn K (.ref c) (.ref te)=some true
 ii:PySem.W.isIn K (.ref c) c=true
 iv:PySem.W.subIn K (.ref c) (.type "ValueError")=some true
structure KC (K:PySem.W.Frag) (te:Addr) (A:Nat→Addr) (e:Nat):Prop where
 ek:Dp K (A e)
 un:PySem.W.subIn K (.ref (A e)) (.ref te)=some true
 ii:PySem.W.isIn K (.ref (A e)) (A e)=true
 iv:PySem.W.subIn K (.ref (A e)) (.type "ValueError")=some true
 no:∀ i,i < 7→i≠e→PySem.W.kin_not K (A e) (A i)=true
theorem KC.isx {K:PySem.W.Frag} {te:Addr} {A:Nat→Addr} {e:Nat} (h:KC K te A e) {i:Nat} (hi:i < 7):IsX K (A e) (.ref (A i)) (decide (i=e)):=by
 by_cases z:i=e
 ·rw [decide_eq_true z,z]
  exact .inl ⟨_,rfl,.inl ⟨rfl,h.ii⟩⟩
 ·rw [decide_eq_false z]
  exact .inl ⟨_,rfl,.inr ⟨rfl,h.ek,h.no i hi z⟩⟩
def mks (e:Nat):List V:=[.bl (decide (0=e)),.bl (decide (1=e)),.bl (decide (2=e)),.bl (decide (3=e)),.bl (decide (4=e)),.bl (decide (5=e)),.bl (decide (6=e))]
def wds:List V:=[.str "NoPart",.str "NoPlace",.str "Twice",.str "Linked",.str "Apart",.str "NoDeed",.str "NoText"]
def CG:Nat→Str
 | 0=>"NoPart"
 | 1=>"NoPlace"
 | 2=>"Twice"
 | 3=>"Linked"
 | _=>"Apart"
theorem Jd {e:Nat} (h:e≤4):(mks e).all jr=true∧(mks e).countP (fun z=>eqV z (.bl true))=1∧(mks e)[e]?=some (.bl true)∧(∀ i z,i < e→(mks e)[i]?=some z→eqV z (.bl true)=false)∧atI wds (e:Nat)=some (.str (CG e)):=by
 have no:∀ (e i:Nat) (z:V),e≤4→i < e→(mks e)[i]?=some z→eqV z (.bl true)=false:=fun e i z he hi hz=>by
  match e,i,he,hi,hz with
  | 1,0,_,_,hz=>cases hz; rfl
  | 2,0,_,_,hz=>cases hz; rfl
  | 2,1,_,_,hz=>cases hz; rfl
  | 3,0,_,_,hz=>cases hz; rfl
  | 3,1,_,_,hz=>cases hz; rfl
  | 3,2,_,_,hz=>cases hz; rfl
  | 4,0,_,_,hz=>cases hz; rfl
  | 4,1,_,_,hz=>cases hz; rfl
  | 4,2,_,_,hz=>cases hz; rfl
  | 4,3,_,_,hz=>cases hz; rfl
 match e,h with
 | 0,_=>exact ⟨rfl,rfl,rfl,fun i z hi hz=>no 0 i z (by decide) hi hz,aJ (xs:=wds) (j:=0) rfl⟩
 | 1,_=>exact ⟨rfl,rfl,rfl,fun i z hi hz=>no 1 i z (by decide) hi hz,aJ (xs:=wds) (j:=1) rfl⟩
 | 2,_=>exact ⟨rfl,rfl,rfl,fun i z hi hz=>no 2 i z (by decide) hi hz,aJ (xs:=wds) (j:=2) rfl⟩
 | 3,_=>exact ⟨rfl,rfl,rfl,fun i z hi hz=>no 3 i z (by decide) hi hz,aJ (xs:=wds) (j:=3) rfl⟩
 | 4,_=>exact ⟨rfl,rfl,rfl,fun i z hi hz=>no 4 i z (by decide) hi hz,aJ (xs:=wds) (j:=4) rfl⟩
def zP (K:PySem.W.Frag) (te:Addr) (A:Nat→Addr) (C:Nat→Addr):Sp:=fun vs H Q _=>∃ (v:V) (pd:Addr) (e:Nat),vs=[v,.ref pd]∧e≤4∧KC K te A e∧C e=A e ∧
 (∀ Q' E',aZ (C e) H E'→nY C vs H Q' E')∧∀ (t:Addr) (H':Hp),Same H H'→H' t=some (.tup [.non,.str (CG e)])→Q (.ref t) H'
section
variable {P:Program} {w:World} {K:PySem.W.Frag} {mg:Str→Option Value} {base:Heap} {a_NoPart a_TwainError a_NoPlace a_Twice a_Linked a_Apart a_NoDeed a_NoText:Addr}
theorem fM:aK ["_law_book", "_law_deed", "_law_caught", "_law_made", "e", "_law_words", "_law_marks"] ["_law_book", "_law_deed"] (aC vg):=⟨rfl,rfl,rfl,by decide +kernel,rfl,by decide +kernel,by decide +kernel⟩
theorem Gq (h:Has K mg "_law_tried" vg ["_law_book", "_law_deed"]) (q_TwainError:mg "TwainError" = some (.ref a_TwainError)) (x_TwainError:PySem.W.excIn K a_TwainError vBm "ValueError.__new__" = true) (q_Twice:mg "Twice" = some (.ref a_Twice)) (q_NoPlace:mg "NoPlace" = some (.ref a_NoPlace)) (q_NoPart:mg "NoPart" = some (.ref a_NoPart)) (q_Apart:mg "Apart" = some (.ref a_Apart)) (q_Linked:mg "Linked" = some (.ref a_Linked)) (q_NoText:mg "NoText" = some (.ref a_NoText)) (q_NoDeed:mg "NoDeed" = some (.ref a_NoDeed)) (C_done:cM P w K mg base "done" 7 ["book", "deed"] (nY (c5 a_NoPart a_NoPlace a_Twice a_Linked a_Apart))) (m_isinstance:mg "isinstance" = none) (m_ValueError:mg "ValueError" = none):Cal P w K mg base "_law_tried" 8 ["_law_book", "_law_deed"] (zP K a_TwainError (a7 a_NoPart a_NoPlace a_Twice a_Linked a_Apart a_NoDeed a_NoText) (c5 a_NoPart a_NoPlace a_Twice a_Linked a_Apart)):=by
 refine h.mk' fM (fun vs H Q E hs=>?_) (fun f cdv A outer s H vs Q E hr hs=>?_)
 ·obtain ⟨v,pd,e,rfl,_⟩:=hs
  rfl
 obtain ⟨v,pd,e,rfl,he2,kc,hce,hsp,k2⟩:=hs
 refine ⟨_,(ao (aH (i:=2) fM.nd rfl (Or.inl rfl) jh)
  (ao (aH (i:=3) fM.nd rfl (Or.inl rfl) jh)
  (ao (zV (i:=4) (fun pins R=>(aF (aH (i:=3) fM.nd rfl (Or.inl rfl) (Du C_done hr (by decide) rfl (aj (pv 0) (aj (pv 1) au)))))) (fun e=>(aF (aH (i:=2) fM.nd rfl (Or.inl rfl) (pv 4)))) rfl q_TwainError x_TwainError fM.nd rfl rfl rfl rfl)
  (ao (dM (bh Ao (pv 2) jh (bZ _))
   (aF (bx (cH (aj (pv 3) (aj aA au)))))
   bN)
  (ao (aH (i:=5) fM.nd rfl (Or.inl rfl) (aX (aj aA (aj aA (aj aA (aj aA (aj aA (aj aA (aj aA au)))))))))
  (ao (aH (i:=6) fM.nd rfl (Or.inl rfl) (aX (aj (bH cA rfl m_isinstance boot_isinstance (aj (pv 2) (aj (gW (v:=.ref a_NoPart) rfl q_NoPart rfl) au))) (aj (bH cA rfl m_isinstance boot_isinstance (aj (pv 2) (aj (gW (v:=.ref a_NoPlace) rfl q_NoPlace rfl) au))) (aj (bH cA rfl m_isinstance boot_isinstance (aj (pv 2) (aj (gW (v:=.ref a_Twice) rfl q_Twice rfl) au))) au)))))
  (ao (aH (i:=6) fM.nd rfl (Or.inl rfl) (aV mL (pv 6) (aX (aj (bH cA rfl m_isinstance boot_isinstance (aj (pv 2) (aj (gW (v:=.ref a_Linked) rfl q_Linked rfl) au))) (aj (bH cA rfl m_isinstance boot_isinstance (aj (pv 2) (aj (gW (v:=.ref a_Apart) rfl q_Apart rfl) au))) au)))))
  (ao (aH (i:=6) fM.nd rfl (Or.inl rfl) (aV mL (pv 6) (aX (aj (bH cA rfl m_isinstance boot_isinstance (aj (pv 2) (aj (gW (v:=.ref a_NoDeed) rfl q_NoDeed rfl) au))) (aj (bH cA rfl m_isinstance boot_isinstance (aj (pv 2) (aj (gW (v:=.ref a_NoText) rfl q_NoText rfl) au))) au)))))
  (ao (dM (PW.pt (Fp (bh oY (gD PySem.F.plainAttrs_list PySem.F.slot_list_count PySem.F.type_list_count Bb (pv 6) (aj GZ au)) aB (bZ _)) (z6 (uZ (n6 (bH cA rfl m_isinstance boot_isinstance (aj (pv 2) (aj (Ht (v:=.ty "ValueError") rfl m_ValueError mQ rfl) au))))))))
   (aF (bx (cH (aj jh (aj aA au)))))
   bN)
  (aF (bx (cH (aj jh (aj (aM cC (pv 5) (gD PySem.F.plainAttrs_list PySem.F.slot_list_index PySem.F.type_list_index rB (pv 6) (aj GZ au)) (fun _ _=>rfl)) au)))))))))))))),?_⟩
 refine ⟨_,rfl,_,rfl,hsp _ _ (wV fun ex T H1 s1 hex hx=>?_)⟩
 rw [hce] at hx ⊢
 refine ⟨⟨_,rfl,kc.un⟩,fun T' hT' hn=>?_⟩
 have sx:Same H (xH H1 T' ex (.ref (a7 a_NoPart a_NoPlace a_Twice a_Linked a_Apart a_NoDeed a_NoText e))):=sX s1 hex hn
 have ee:xH H1 T' ex (.ref (a7 a_NoPart a_NoPlace a_Twice a_Linked a_Apart a_NoDeed a_NoText e)) ex=some (lQ (.ref (a7 a_NoPart a_NoPlace a_Twice a_Linked a_Apart a_NoDeed a_NoText e)) T' ex):=ak
 generalize xH H1 T' ex (.ref (a7 a_NoPart a_NoPlace a_Twice a_Linked a_Apart a_NoDeed a_NoText e))=H2 at sx ee
 refine ⟨_,rfl,_,rfl,rfl,_,rfl,?_⟩
 refine fV (fun z=>by have:=of_decide_eq_true z; cases this) (fun _=>?_)
 refine ⟨smn 7,fun lw hlw=>?_⟩
 have w0:=aq hlw (.lst wds)
 have ew:(upd H2 lw (.lst wds)) lw=some (.lst wds):=ak
 have ex0:=w0 _ _ ee
 generalize hH3:upd H2 lw (.lst wds)=H3 at w0 ew ex0
 have hH3:upd H2 lw (.lst [.str "NoPart",.str "NoPlace",.str "Twice",.str "Linked",.str "Apart",.str "NoDeed",.str "NoText"])=H3:=hH3
 rw [hH3]
 obtain ⟨m1,m2,m3,m4,m5⟩:=Jd he2
 refine ⟨_,rfl,ex,T',_,_,_,rfl,ex0,kc.isx (i:=0) (by omega),_,rfl,ex,T',_,_,_,rfl,ex0,kc.isx (i:=1) (by omega),_,rfl,ex,T',_,_,_,rfl,ex0,kc.isx (i:=2) (by omega),smn 3,fun l1 hl1=>?_⟩
 have w1:=aq hl1 (.lst [.bl (decide (0=e)),.bl (decide (1=e)),.bl (decide (2=e))])
 have e1:(upd H3 l1 (.lst [.bl (decide (0=e)),.bl (decide (1=e)),.bl (decide (2=e))])) l1=some (.lst [.bl (decide (0=e)),.bl (decide (1=e)),.bl (decide (2=e))]):=ak
 generalize upd H3 l1 (.lst [.bl (decide (0=e)),.bl (decide (1=e)),.bl (decide (2=e))])=H4 at w1 e1 ⊢
 have ex1:=w1 _ _ ex0
 refine ⟨_,rfl,_,rfl,ex,T',_,_,_,rfl,ex1,kc.isx (i:=3) (by omega),_,rfl,ex,T',_,_,_,rfl,ex1,kc.isx (i:=4) (by omega),smn 2,fun l2 hl2=>?_⟩
 have w2:=aq hl2 (.lst [.bl (decide (3=e)),.bl (decide (4=e))])
 have e2:(upd H4 l2 (.lst [.bl (decide (3=e)),.bl (decide (4=e))])) l2=some (.lst [.bl (decide (3=e)),.bl (decide (4=e))]):=ak
 generalize upd H4 l2 (.lst [.bl (decide (3=e)),.bl (decide (4=e))])=H5 at w2 e2 ⊢
 refine ⟨l1,l2,_,_,rfl,rfl,w2 _ _ e1,e2,smn 5,fun l3 hl3=>?_⟩
 have w3:=aq hl3 (.lst ([.bl (decide (0=e)),.bl (decide (1=e)),.bl (decide (2=e))]++[.bl (decide (3=e)),.bl (decide (4=e))]))
 have e3:(upd H5 l3 (.lst ([.bl (decide (0=e)),.bl (decide (1=e)),.bl (decide (2=e))]++[.bl (decide (3=e)),.bl (decide (4=e))]))) l3=some (.lst ([.bl (decide (0=e)),.bl (decide (1=e)),.bl (decide (2=e))]++[.bl (decide (3=e)),.bl (decide (4=e))])):=ak
 generalize upd H5 l3 (.lst ([.bl (decide (0=e)),.bl (decide (1=e)),.bl (decide (2=e))]++[.bl (decide (3=e)),.bl (decide (4=e))]))=H6 at w3 e3 ⊢
 have ex3:=w3 _ _ (w2 _ _ ex1)
 refine ⟨_,rfl,_,rfl,ex,T',_,_,_,rfl,ex3,kc.isx (i:=5) (by omega),_,rfl,ex,T',_,_,_,rfl,ex3,kc.isx (i:=6) (by omega),smn 2,fun l4 hl4=>?_⟩
 have w4:=aq hl4 (.lst [.bl (decide (5=e)),.bl (decide (6=e))])
 have e4:(upd H6 l4 (.lst [.bl (decide (5=e)),.bl (decide (6=e))])) l4=some (.lst [.bl (decide (5=e)),.bl (decide (6=e))]):=ak
 generalize upd H6 l4 (.lst [.bl (decide (5=e)),.bl (decide (6=e))])=H7 at w4 e4 ⊢
 refine ⟨l3,l4,_,_,rfl,rfl,w4 _ _ e3,e4,smn 7,fun l5 hl5=>?_⟩
 have w5:=aq hl5 (.lst (mks e))
 have e5:(upd H7 l5 (.lst (mks e))) l5=some (.lst (mks e)):=ak
 generalize hH8:upd H7 l5 (.lst (mks e))=H8 at w5 e5
 have hH8:upd H7 l5 (.lst (([.bl (decide (0=e)),.bl (decide (1=e)),.bl (decide (2=e))]++[.bl (decide (3=e)),.bl (decide (4=e))])++[.bl (decide (5=e)),.bl (decide (6=e))]))=H8:=hH8
 rw [hH8]
 have s38:=w1.trans (w2.trans (w3.trans (w4.trans w5)))
 have ex5:=s38 _ _ ex0
 have ew5:=s38 _ _ ew
 refine ⟨_,rfl,.inl ⟨rfl,_,SqL.of e5⟩,l5,_,.bl true,rfl,rfl,e5,rfl,m1,?_⟩
 rw [m2]
 refine ⟨rfl,_,rfl,?_⟩
 refine fV (fun z=>absurd z (by decide)) (fun _=>?_)
 refine ⟨_,rfl,ex,T',_,_,_,rfl,ex5,.inr ⟨_,rfl,rfl,by kernel_rfl,kc.iv⟩,_,rfl,?_⟩
 refine fV (fun z=>absurd z (by decide)) (fun _=>?_)
 refine ⟨_,rfl,_,rfl,.inl ⟨rfl,_,SqL.of e5⟩,l5,_,.bl true,.bl true,e,rfl,rfl,e5,rfl,m1,m3,rfl,m4,lw,_,_,_,rfl,rfl,SqL.of ew5,m5,smn 2,fun t ht=>?_⟩
 have s9:=aq ht (.tup [.non,.str (CG e)])
 exact k2 t _ ((sx.trans (w0.trans s38)).trans s9) ak
end
def yS:Sp:=fun vs H Q _=>∃ (d lo p:Addr) (xs:Nms),vs=[.ref d,.ref p]∧bQ d lo H∧H p=some (.tup (xs.map mkT))∧xs≠[]∧xs.length≤1000∧∀ (x:List Nat) (H':Hp),x∈xs→bQ d lo H'→Old d lo H H'→Q (mkT x) H'
abbrev Sv:=List (Str × V)
structure Cs (d lo c:Addr) (v:V) (B:D) (H0:Hp) (l:Sv) (H:Hp):Prop where
 p:bQ d lo H
 o:Old d lo H0 H
 b:Den H v B
 f:H0 c=none
 nd:c≠d
 nl:c≠lo
 e:∃ kvs,H c=some (.dK kvs)∧kvs.length≤l.length∧∀ q∈l,dU kvs (Sum.inr q.1:Key)=some q.2
theorem vV {H:Hp} {c:Addr} {kvs ys:List (Key × V)} (hl:H c=some (.dK kvs)):∀ (b:Addr) (vs:List V),H b=some (.tup vs)→upd H c (.dK ys) b=some (.tup vs):=fun b vs e=>by
 have:b≠c:=fun z=>by subst z; rw [hl] at e; cases e
 exact (aG this).trans e
section
variable {d lo c:Addr} {v:V} {B:D} {H0 H1 H2:Hp} {l:Sv}
theorem Cs.same (h:Cs d lo c v B H0 l H1) (s:Same H1 H2):Cs d lo c v B H0 l H2:=by
 obtain ⟨kvs,e1,e2,e3⟩:=h.e
 exact ⟨h.p.same s,h.o.trans (Old.of s),h.b.same s,h.f,h.nd,h.nl,kvs,s _ _ e1,e2,e3⟩
theorem Cs.old (h:Cs d lo c v B H0 l H1) (p2:bQ d lo H2) (o:Old d lo H1 H2):Cs d lo c v B H0 l H2:=by
 obtain ⟨kvs,e1,e2,e3⟩:=h.e
 exact ⟨p2,h.o.trans o,h.b.keepT (bI h.p o),h.f,h.nd,h.nl,kvs,o _ _ e1 h.nd h.nl,e2,e3⟩
theorem Cs.put (h:Cs d lo c v B H0 l H1) (k:Str) (u:V) (hl:l.length≤100) (hk:k ∉ l.map (·.1)):∃ H2,uJ H1 c (.str k) u H2∧Cs d lo c v B H0 ((k,u) :: l) H2∧∀ b o,H1 b=some o→b≠c→H2 b=some o:=by
 obtain ⟨kvs,e1,e2,e3⟩:=h.e
 refine ⟨_,uJ.k (k:=(Sum.inr k:Key)) e1 (Nat.lt_of_le_of_lt (Nat.le_trans e2 hl) (by have:=bR; omega)),⟨h.p.upd h.nd h.nl,fun b o e n1 n2=>(aG (aD e h.f)).trans (h.o b o e n1 n2),h.b.keepT (vV e1),h.f,h.nd,h.nl,_,ak,?_,?_⟩,fun b o e n=>(aG n).trans e⟩
 ·exact Nat.le_trans (gk _ _ _) (by show _≤l.length+1; omega)
 ·intro q hq
  rw [Cw]
  rcases List.mem_cons.mp hq with rfl | hq
  ·rw [if_pos rfl]
  ·rw [if_neg]
   ·exact e3 q hq
   ·intro z
    injection z with z
    exact hk (z ▸ List.mem_map_of_mem (f:=(·.1)) hq)
theorem Cs.get (h:Cs d lo c v B H0 l H1) {k:Str} {u:V} (hm:(k,u)∈l):nG H1 c (.str k) (some u):=by
 obtain ⟨kvs,e1,_,e3⟩:=h.e
 rw [← e3 _ hm]
 exact nG.k (k:=(Sum.inr k:Key)) e1
end
def sy (n:Int):List (Key × V):=[(Sum.inr "side",.int n),(Sum.inr "no",.str ""),(Sum.inr "0",.int 0),(Sum.inr "1",.int 1),(Sum.inr "400",.int 400),(Sum.inr "w",.str "a")]
def lq:List (Key × V):=[(Sum.inr "gone",.str "zzyyxxww"),(Sum.inr "none",.str "wwxxyyzz")]
theorem jl:∀ (more kvs:List (Key × V)),((kvs++more).map (·.1)).Nodup→gJ kvs more=kvs++more
 | [],kvs,_=>by simp [gJ]
 | p :: more,kvs,h=>by
  have hn:dU kvs p.1=none:=by
   unfold dU
   rw [Option.map_eq_none_iff,List.find?_eq_none]
   intro q hq
   rw [List.map_append,List.nodup_append] at h
   simpa using h.2.2 q.1 (List.mem_map_of_mem hq) p.1 (List.mem_map_of_mem (List.mem_cons_self))
  show gJ (putK kvs p.1 p.2) more=_
  rw [Cv _ hn,jl more]
  ·rw [List.append_assoc]; rfl
  ·rw [List.append_assoc]; exact h
theorem zN (n:Int):((sy n++lq).map (·.1)).Nodup:=by
 show ([Sum.inr "side",Sum.inr "no",Sum.inr "0",Sum.inr "1",Sum.inr "400",Sum.inr "w",Sum.inr "gone",Sum.inr "none"]:List Key).Nodup
 decide +kernel
theorem wF (n:Int):gJ [] (sy n)=sy n:=jl _ _ (by
 show ([Sum.inr "side",Sum.inr "no",Sum.inr "0",Sum.inr "1",Sum.inr "400",Sum.inr "w"]:List Key).Nodup
 decide +kernel)
theorem ug:gJ [] lq=lq:=jl _ _ (by
 show ([Sum.inr "gone",Sum.inr "none"]:List Key).Nodup
 decide +kernel)
def dO (n:Int):Sv:=[("side",.int n),("no",.str ""),("0",.int 0),("1",.int 1),("400",.int 400),("w",.str "a"),("gone",.str "zzyyxxww"),("none",.str "wwxxyyzz")]
theorem Eb:∀ {kvs:List (Key × V)},(kvs.map (·.1)).Nodup→∀ q∈kvs,dU kvs q.1=some q.2
 | [],_,q,hq=>by cases hq
 | p :: kvs,h,q,hq=>by
  rw [List.map_cons,List.nodup_cons] at h
  rcases List.mem_cons.mp hq with rfl | hq
  ·exact cj rfl
  ·rw [bY]
   ·exact Eb h.2 q hq
   ·intro z
    exact h.1 (z ▸ List.mem_map_of_mem (f:=(·.1)) hq)
theorem Dl (n:Int):∀ q∈dO n,dU (sy n++lq) (Sum.inr q.1:Key)=some q.2:=fun q hq=>by
 have e:sy n++lq=(dO n).map fun q=>((Sum.inr q.1:Key),q.2):=rfl
 have:=Eb (zN n) (Sum.inr q.1,q.2) (by rw [e]; exact List.mem_map_of_mem hq)
 exact this
def um (k0 k1:Lnk) (al:Nms):Nms:=((k0.1++k0.2.1)++(k1.1++k1.2.1))++al
def dJ (m:Nat) (L R:List Prt) (k0 k1:Lnk) (al:Nms):Nms:=((sdP m L R).map (·.1)).filter fun x=>decide (x ∉ um k0 k1 al)
theorem Dm {xs:List V} {r:Nat} (h:r < xs.length):∃ v,atI xs (((r:Nat):Int) - 1)=some v∧v∈xs:=by
 cases r with
 | zero =>
  have hk:xs.length - 1 < xs.length:=by omega
  refine ⟨xs[xs.length - 1],?_,List.getElem_mem hk⟩
  unfold atI ixN
  rw [if_neg (by omega),if_pos (by omega)]
  show xs[(((0:Nat):Int) - 1+(xs.length:Int)).toNat]?=_
  rw [show (((0:Nat):Int) - 1+(xs.length:Int)).toNat=xs.length - 1 by omega]
  exact bM hk
 | succ r =>
  have e:(((r+1:Nat):Int) - 1)=((r:Nat):Int):=by omega
  rw [e]
  exact ⟨xs[r],aJ (bM (by omega)),List.getElem_mem _⟩
def LR (n:Nat) (L R:List Prt) (k0 k1:Lnk) (al:Nms):Nat→Sv→Prop
 | 0,l=>l=dO n
 | 1,l=>∃ he ot,he∈dJ n L R k0 k1 al∧ot∈dJ n L R k0 k1 al∧l=(("other",mkT ot) :: ("here",mkT he) :: dO n:Sv)
 | _,l=>∃ he ot th be,he∈dJ n L R k0 k1 al∧ot∈dJ n L R k0 k1 al∧th∈dJ (1 - n) L R k0 k1 al∧be∈dJ (1 - n) L R k0 k1 al∧l=(("beyond",mkT be) :: ("there",mkT th) :: ("other",mkT ot) :: ("here",mkT he) :: dO n:Sv)
theorem FT {L R:List Prt} {k0 k1:Lnk} {al:Nms} (h:d8 L R k0 k1 al) {m:Nat} (hm:m≤1):0 < (dJ m L R k0 k1 al).length:=by
 obtain ⟨a0,r0,p0,a1,r1,p1,pa⟩:=h.nd0
 have l0:=h.len k0 (.head _)
 have l1:=h.len k1 (.tail _ (.head _))
 have nd:=h.nd
 rw [List.map_append] at nd
 have nd2:((k0.1++k1.1++a0 :: r0)++(k0.2.1++k1.2.1++a1 :: r1)).Nodup:=((p0.append p1).nodup_iff).mp nd
 have e0:=p0.length_eq
 have e1:=p1.length_eq
 rw [List.length_map,List.length_append,List.length_append,List.length_cons,l0.1,l1.1] at e0
 rw [List.length_map,List.length_append,List.length_append,List.length_cons,l0.2.1,l1.2.1] at e1
 have g0:=h.l7
 have g1:=h.r7
 have key:∀ x,x∈(sdP m L R).map (·.1)→x ∉ um k0 k1 al→0 < (dJ m L R k0 k1 al).length:=fun x hx hy=>List.length_pos_of_mem (a:=x) (List.mem_filter.mpr ⟨hx,decide_eq_true hy⟩)
 have hal:∀ x,x∈al↔x=a0∨x=a1:=fun x=>by rw [pa.mem_iff]; simp
 match m,hm with
 | 0,_ =>
  match r0,e0,p0,nd2 with
  | [],e0,_,_=>simp at e0; omega
  | x :: r0,_,p0,nd2 =>
   refine key x (p0.mem_iff.mpr (by simp)) ?_
   simp only [List.nodup_append,List.nodup_cons,List.mem_append,List.mem_cons] at nd2
   unfold um
   simp only [List.mem_append,hal]
   grind
 | 1,_ =>
  match r1,e1,p1,nd2 with
  | [],e1,_,_=>simp at e1; omega
  | x :: r1,_,p1,nd2 =>
   refine key x (p1.mem_iff.mpr (by simp)) ?_
   simp only [List.nodup_append,List.nodup_cons,List.mem_append,List.mem_cons] at nd2
   unfold um
   simp only [List.mem_append,hal]
   grind
theorem Hf {L R:List Prt} {k0 k1:Lnk} {al:Nms} (h:d8 L R k0 k1 al) {m:Nat} (hm:m≤1):0 < (al.filter fun x=>decide (x∈(sdP m L R).map (·.1))).length:=by
 obtain ⟨a0,r0,p0,a1,r1,p1,pa⟩:=h.nd0
 match m,hm with
 | 0,_=>exact List.length_pos_of_mem (a:=a0) (List.mem_filter.mpr ⟨pa.mem_iff.mpr (by simp),decide_eq_true (p0.mem_iff.mpr (by simp))⟩)
 | 1,_=>exact List.length_pos_of_mem (a:=a1) (List.mem_filter.mpr ⟨pa.mem_iff.mpr (by simp),decide_eq_true (p1.mem_iff.mpr (by simp))⟩)
theorem wL {L:List Prt} (nd:(L.map (·.1)).Nodup) {p:Prt} (h:p∈L):bD L p.1=some p:=by
 induction L with
 | nil=>cases h
 | cons a L ih =>
  rw [List.map_cons,List.nodup_cons] at nd
  unfold bD
  rw [List.find?_cons]
  rcases List.mem_cons.mp h with rfl | h
  ·rw [decide_eq_true rfl]
  ·have:decide (a.1=p.1)=false:=decide_eq_false fun z=>nd.1 (z ▸ List.mem_map_of_mem h)
   rw [this]
   exact ih nd.2 h
theorem zp {m:Nat} {L R:List Prt} {p:Prt} (h:p∈sdP m L R):p∈L++R:=by
 unfold sdP at h
 split at h
 ·exact List.mem_append_left _ h
 ·exact List.mem_append_right _ h
structure CsW (n:Nat) (L R:List Prt) (k0 k1:Lnk) (al:Nms) (he ot th be on tw fa lo:List Nat) (sz:Nat):Prop where
 f1:he∈dJ n L R k0 k1 al
 f2:ot∈dJ n L R k0 k1 al
 f3:th∈dJ (1 - n) L R k0 k1 al
 f4:be∈dJ (1 - n) L R k0 k1 al
 f5:on∈bA n k0
 f6:tw∈bA n k1
 f7:fa∈bA (1 - n) k0∨fa∈bA (1 - n) k1
 f8:lo∈al∧lo∈(sdP n L R).map (·.1)
 f9:Bj L R he=sz
def dz (n:Int) (he ot th be on tw fa lo:List Nat) (sz:Nat):Sv:=("more",.int ((sz:Nat)+1)) :: ("size",.int (sz:Nat)) :: ("lone",mkT lo) :: ("far",mkT fa) :: ("two",mkT tw) :: ("one",mkT on) :: ("beyond",mkT be) :: ("there",mkT th) :: ("other",mkT ot) :: ("here",mkT he) :: dO n
def DQ:Sp:=fun vs H Q _=>∃ (d lo:Addr) (v:V) (n:Nat) (L R:List Prt) (k0 k1:Lnk) (al:Nms),vs=[.ref d,v,.int (n:Nat)]∧n≤1∧bQ d lo H∧Den H v (dH L R [k0,k1] al)∧d8 L R k0 k1 al ∧
 ∀ (c:Addr) (he ot th be on tw fa lo':List Nat) (sz:Nat) (H':Hp),CsW n L R k0 k1 al he ot th be on tw fa lo' sz→Cs d lo c v (dH L R [k0,k1] al) H (dz n he ot th be on tw fa lo' sz) H'→Q (.ref c) H'
section
variable {P:Program} {w:World} {K:PySem.W.Frag} {mg:Str→Option Value} {base:Heap}
theorem GQ:aK ["_law_pot_here", "_law_some"] ["_law_pot_here", "_law_some"] (aC uU):=⟨rfl,rfl,rfl,by decide +kernel,rfl,by decide +kernel,by decide +kernel⟩
theorem Dq (h:Has K mg "_law_one_of" uU ["_law_pot_here", "_law_some"]) (C_next:Cal P w K mg base "_law_next" 1 ["_law_pot_here", "_law_many"] jg) (m_len:mg "len" = none):Cal P w K mg base "_law_one_of" 2 ["_law_pot_here", "_law_some"] yS:=by
 refine h.mk' GQ (fun vs H Q E hs=>?_) (fun f cdv A outer s H vs Q E hr hs=>?_)
 ·obtain ⟨d,lo,l,xs,rfl,_⟩:=hs
  rfl
 obtain ⟨d,lo,l,xs,rfl,hp,hl,hne,hlen,k⟩:=hs
 refine ⟨_,(aF (bx (aM aO (pv 1) (aY C_next hr (by decide) rfl (aj (pv 0) (aj (bH fj rfl m_len PySem.boot_len (aj (pv 1) au)) au))) (fun _ _=>rfl)))),?_⟩
 have hpos:0 < xs.length:=List.length_pos_iff.mpr hne
 refine ⟨_,rfl,_,rfl,_,rfl,l,_,rfl,.inr (SqT.of hl),?_⟩
 rw [List.length_map]
 refine ⟨d,lo,_,rfl,hp,(by omega),(by omega),fun r H2 r0 r1 p2 o2=>?_⟩
 obtain ⟨i,rfl⟩:=Int.eq_ofNat_of_zero_le r0
 have hi:i < xs.length:=by omega
 exact ⟨l,_,_,mkT xs[i],rfl,rfl,SqT.of (bI hp o2 _ _ hl),aJ (by rw [List.getElem?_map,bM hi]; rfl),k _ H2 (List.getElem_mem hi) p2 o2⟩
end
section
variable {P:Program} {w:World} {K:PySem.W.Frag} {mg:Str→Option Value} {base:Heap}
theorem jx:aK ["_law_pot_here", "_law_book", "_law_side", "_law_cast_here", "_law_linked", "_law_seen", "_law_words", "_law_rest", "_law_at", "_law_own", "_law_texts"] ["_law_pot_here", "_law_book", "_law_side"] (aC pR):=⟨rfl,rfl,rfl,by decide +kernel,rfl,by decide +kernel,by decide +kernel⟩
theorem Jh (h:Has K mg "_law_cast" pR ["_law_pot_here", "_law_book", "_law_side"]) (C_next:Cal P w K mg base "_law_next" 1 ["_law_pot_here", "_law_many"] jg) (C_one_of:Cal P w K mg base "_law_one_of" 2 ["_law_pot_here", "_law_some"] yS) (m_sum:mg "sum" = none) (m_len:mg "len" = none):Cal P w K mg base "_law_cast" 3 ["_law_pot_here", "_law_book", "_law_side"] DQ:=by
 refine h.mk' jx (fun vs H Q E hs=>?_) (fun f cdv A outer s H vs Q E hr hs=>?_)
 ·obtain ⟨d,lo,v,n,L,R,k0,k1,al,rfl,_⟩:=hs
  rfl
 obtain ⟨d,lo,v,n,L,R,k0,k1,al,rfl,hn,hp,hv,hR,k⟩:=hs
 refine ⟨_,(ao (aH (i:=3) jx.nd rfl (Or.inr rfl) (uH (cV aA (pv 2) (cV aA aA (cV aA aB (cV aA aB (cV aA aB (cV aA aA uc)))))) rfl rfl (by simp) (by decide +kernel)))
  (ao (cL (gD PySem.F.plainAttrs_dict PySem.F.slot_dict_update PySem.F.type_dict_update Al (pv 3) (aj (uH (cV aA aA (cV aA aA uc)) rfl rfl (by simp) (by decide +kernel)) au)))
  (ao (aH (i:=4) jx.nd rfl (Or.inr rfl) (aV gq (bH (Ai rfl) rfl m_sum boot_sum (aj (cN ["_law_pot_here", "_law_book", "_law_side", "_law_cast_here", "_law_linked", "_law_seen", "_law_words", "_law_rest", "_law_at", "_law_own", "_law_texts"] (aC pR) ["_law_link"] [none] rfl rfl rfl (dR (aM aO (pv 1) aB (fun _ _=>rfl))) rfl (by decide +kernel) (by decide +kernel) (by decide +kernel) (by decide +kernel) (hg:=fun cl C s H ex pn E=>(aU (i:=0) (by decide +kernel:(["_law_link"]:List Str).Nodup) rfl (Or.inl rfl))) (ht:=fun cl C s H ex pn E=>cJ) (he:=fun cl C s H ex pn E=>(aV gq (aM (fL (K:=K) rfl) (pv 0) aB (fun _ _=>rfl)) (aM (fL (K:=K) rfl) (pv 0) aB (fun _ _=>rfl))))) (aj (cH au) au))) (aM aO (pv 1) aB (fun _ _=>rfl))))
  (ao (fQ PassesOwn.never rfl (jq (aX (aj (cH (aj (pv 2) (aj (aX (aj aA (aj aA au))) au))) (aj (cH (aj (aV oO aB (pv 2)) (aj (aX (aj aA (aj aA au))) au))) au)))) (uV (n:=2) rfl (eY (aU (i:=5) jx.nd rfl (Or.inl rfl)) (eY (aU (i:=6) jx.nd rfl (Or.inl rfl)) pX)))
   (ao (uF (ix:=7) jx.nd rfl rfl ["_law_pot_here", "_law_book", "_law_side", "_law_cast_here", "_law_linked", "_law_seen", "_law_words", "_law_rest", "_law_at", "_law_own", "_law_texts"] (aC pR) ["_law_linked", "_law_part"] [some 4,none] rfl rfl rfl (dR (aM aO (pv 1) (pv 5) (fun _ _=>rfl))) rfl (by decide +kernel) (by decide +kernel) (by decide +kernel) (by decide +kernel) (hg:=fun cl C s H ex pn E=>(aU (i:=1) (by decide +kernel:(["_law_linked", "_law_part"]:List Str).Nodup) rfl (Or.inl rfl))) (ht:=fun cl C s H ex pn E=>(lO (bh (pK (K:=K) rfl) (aM (fL (K:=K) rfl) (pv 1) aB (fun _ _=>rfl)) (pv 0) (by with_unfolding_all rfl)))) (he:=fun cl C s H ex pn E=>(aM (fL (K:=K) rfl) (pv 1) aB (fun _ _=>rfl))))
  (ao (aH (i:=8) jx.nd rfl (Or.inl rfl) (aY C_next hr (by decide) rfl (aj (pv 0) (aj (bH fj rfl m_len PySem.boot_len (aj (pv 7) au)) au))))
  (aF (Ek (cH (aj (aM cC (pv 7) (pv 8) (fun _ _=>rfl)) (aj (aM cC (pv 7) (aV oO (pv 8) aB) (fun _ _=>rfl)) au))) (uV (n:=2) rfl (eY (Et (pv 3) (aM cC (pv 6) aB (fun _ _=>rfl)) (set_dict (dI hr))) (eY (Et (pv 3) (aM cC (pv 6) aB (fun _ _=>rfl)) (set_dict (dI hr))) pX))))))))
  (ao (fK (dI hr) (pv 3) aA (aY C_one_of hr (by decide) rfl (aj (pv 0) (aj (aM aO (aM aO (aM aO (pv 1) aB (fun _ _=>rfl)) aB (fun _ _=>rfl)) (pv 2) (fun _ _=>rfl)) au))) rfl)
  (ao (fK (dI hr) (pv 3) aA (aY C_one_of hr (by decide) rfl (aj (pv 0) (aj (aM aO (aM aO (aM aO (pv 1) aB (fun _ _=>rfl)) aB (fun _ _=>rfl)) (pv 2) (fun _ _=>rfl)) au))) rfl)
  (ao (fK (dI hr) (pv 3) aA (aY C_one_of hr (by decide) rfl (aj (pv 0) (aj (aM aO (aM aO (aM aO (pv 1) aB (fun _ _=>rfl)) (aY C_next hr (by decide) rfl (aj (pv 0) (aj aB au))) (fun _ _=>rfl)) (aV oO aB (pv 2)) (fun _ _=>rfl)) au))) rfl)
  (ao (aH (i:=9) jx.nd rfl (Or.inr rfl) (cN ["_law_pot_here", "_law_book", "_law_side", "_law_cast_here", "_law_linked", "_law_seen", "_law_words", "_law_rest", "_law_at", "_law_own", "_law_texts"] (aC pR) ["_law_part"] [none] rfl rfl rfl (dR (aM aO (pv 1) (pv 2) (fun _ _=>rfl))) rfl (by decide +kernel) (by decide +kernel) (by decide +kernel) (by decide +kernel) (hg:=fun cl C s H ex pn E=>(aU (i:=0) (by decide +kernel:(["_law_part"]:List Str).Nodup) rfl (Or.inl rfl))) (ht:=fun cl C s H ex pn E=>cJ) (he:=fun cl C s H ex pn E=>(aM (fL (K:=K) rfl) (pv 0) aB (fun _ _=>rfl)))))
  (ao (fK (dI hr) (pv 3) aA (aM cC (cN ["_law_pot_here", "_law_book", "_law_side", "_law_cast_here", "_law_linked", "_law_seen", "_law_words", "_law_rest", "_law_at", "_law_own", "_law_texts"] (aC pR) ["_law_own", "_law_name"] [some 9,none] rfl rfl rfl (dR (aM aO (pv 1) aB (fun _ _=>rfl))) rfl (by decide +kernel) (by decide +kernel) (by decide +kernel) (by decide +kernel) (hg:=fun cl C s H ex pn E=>(aU (i:=1) (by decide +kernel:(["_law_own", "_law_name"]:List Str).Nodup) rfl (Or.inl rfl))) (ht:=fun cl C s H ex pn E=>(lO (bh (wB (K:=K) rfl) (pv 1) (pv 0) (by with_unfolding_all rfl)))) (he:=fun cl C s H ex pn E=>(pv 1))) aB (fun _ _=>rfl)) rfl)
  (ao (uF (ix:=10) jx.nd rfl rfl ["_law_pot_here", "_law_book", "_law_side", "_law_cast_here", "_law_linked", "_law_seen", "_law_words", "_law_rest", "_law_at", "_law_own", "_law_texts"] (aC pR) ["_law_cast_here", "_law_part"] [some 3,none] rfl rfl rfl (dR (aM aO (pv 1) (pv 2) (fun _ _=>rfl))) rfl (by decide +kernel) (by decide +kernel) (by decide +kernel) (by decide +kernel) (hg:=fun cl C s H ex pn E=>(aU (i:=1) (by decide +kernel:(["_law_cast_here", "_law_part"]:List Str).Nodup) rfl (Or.inl rfl))) (ht:=fun cl C s H ex pn E=>(lO (bh nM (aM (fL (K:=K) rfl) (pv 1) aB (fun _ _=>rfl)) (cX (dI hr) (pv 0) aA (fun _ _=>rfl)) (bZ _)))) (he:=fun cl C s H ex pn E=>(aM (fL (K:=K) rfl) (pv 1) aB (fun _ _=>rfl))))
  (ao (fK (dI hr) (pv 3) aA (bH lg rfl m_len PySem.boot_len (aj (aM cC (pv 10) aB (fun _ _=>rfl)) au)) rfl)
  (ao (fK (dI hr) (pv 3) aA (aV fG (cX (dI hr) (pv 3) aA (fun _ _=>rfl)) aB) rfl)
  (aF (bx (pv 3))))))))))))))),?_⟩
 refine jf (fun σ H'=>∃ c:Addr,σ=[some (.ref d),some v,some (.int (n:Nat)),some (.ref c),none,none,none,none,none,none,none]∧Same H H'∧H c=none∧H' c=some (.dK (sy n))) (fun N hN=>?_) ?_
 ·intro c hc
  refine ⟨_,rfl,ak,sy n,rfl,(by show 6≤15; decide),?_⟩
  rw [wF,gM]
  exact hN _ _ ⟨c,rfl,aq hc _,hc,ak⟩
 rintro σ H1 ⟨c,rfl,s1,hc0,e1⟩
 obtain ⟨ncd,ncl⟩:=hp.ne hc0
 refine jf (fun σ H'=>σ=[some (.ref d),some v,some (.int (n:Nat)),some (.ref c),none,none,none,none,none,none,none]∧Cs d lo c v (dH L R [k0,k1] al) H (dO n) H') (fun N hN=>?_) ?_
 ·refine ⟨_,rfl,.inr (.inr (.inl ⟨rfl,.inl ⟨_,e1⟩⟩)),fun d2 hd2=>⟨ak,lq,rfl,by show 2≤15; decide,?_⟩⟩
  rw [ug,gM]
  have s2:=aq hd2 (.dK lq)
  refine ⟨c,d2,sy n,lq,rfl,rfl,aD e1 hd2,s2 _ _ e1,ak,zN n,smn 8,hN _ _ ⟨rfl,?_⟩⟩
  have s12:=s1.trans s2
  exact ⟨(hp.same s12).upd ncd ncl,fun b o e _ _=>(aG (aD e hc0)).trans (s12 _ _ e),(hv.same s12).keepT (vV (s2 _ _ e1)),hc0,ncd,ncl,_,ak,by show 8≤8; decide,Dl n⟩
 rintro σ H2 ⟨rfl,cs2⟩
 clear s1 e1
 obtain ⟨pb,pl,pr,pk,pa,ls,rs,us,rfl,a1,a2,a3,a4,a5,a6,a7,a8⟩:=iV cs2.b
 obtain ⟨u0,u1,rfl⟩:∃ u0 u1,us=[u0,u1]:=by
  match us,a7.len with
  | [a,b],_=>exact ⟨a,b,rfl⟩
 have at_:∀ {j:Nat} {yy:V},[V.ref pl,V.ref pr,V.ref pk,V.ref pa][j]?=some yy→atI [V.ref pl,V.ref pr,V.ref pk,V.ref pa] (j:Nat)=some yy:=fun h=>aJ h
 refine jf (fun σ H'=>∃ q:Addr,σ=[some (.ref d),some (.ref pb),some (.int (n:Nat)),some (.ref c),some (.ref q),none,none,none,none,none,none]∧Cs d lo c (.ref pb) (dH L R [k0,k1] al) H (dO n) H'∧H' q=some (.tup ((um k0 k1 al).map mkT))) (fun N hN=>?_) ?_
 ·refine ⟨_,rfl,pb,_,_,_,rfl,rfl,SqT.of a1,at_ (j:=2) rfl,pk,rfl,⟨_,SqT.of a6⟩,fun lc hlc=>?_⟩
  refine cY (J:=Itt K pk) (l:=lc) 2 (fun i σ' H'=>∃ (x:Option V) (ws:List V),σ'=[x]∧Same H2 H'∧H' lc=some (.lst ws)∧ws.length≤i∧cg H' ws (([k0,k1].take i).map fun q:Lnk=>eU (q.1++q.2.1))) ⟨none,[],rfl,aq hlc _,ak,Nat.le_refl _,trivial⟩ ?_ ?_
  rotate_left
  ·rintro i σ' H' hi ⟨x,ws,rfl,s3,e3,hwl,d3⟩
   have hi2:i < [u0,u1].length:=hi
   have hi3:i < [k0,k1].length:=hi
   refine ⟨⟨_,_,SqT.of (s3 _ _ a6),bM hi2⟩,?_⟩
   rintro N2 hN2 y H'' ⟨rfl,hy⟩
   have ey:y=[u0,u1][i]:=Option.some.inj ((hy _ (SqT.of (s3 _ _ a6))).symm.trans (bM hi2))
   have dy:Den H2 [u0,u1][i] (bK [k0,k1][i]):=at_of a7 (bM hi2) (by rw [List.getElem?_map,bM hi3]; rfl)
   have htk:=take_one (bM hi3)
   have hkl:=hR.len _ (List.getElem_mem hi3)
   rw [← ey] at dy
   generalize [k0,k1][i]=q at dy htk hkl
   obtain ⟨b,p0,p1,p3,p4,p5,us0,us1,rfl,hb,h0,hd0,h1,hd1,h3,h4,h5⟩:=lM (dy.same s3)
   rw [vU hd0] at h0
   rw [vU hd1] at h1
   obtain ⟨l2,l3,_⟩:=hkl
   refine gN (vf (rR ⟨_,rfl,b,_,_,_,rfl,rfl,SqT.of hb,aR _ _,_,rfl,b,_,_,_,rfl,rfl,SqT.of hb,aJ (xs:=[V.ref p0,V.ref p1,V.int q.2.2.1,V.ref p3]) (j:=1) rfl,p0,p1,_,_,rfl,rfl,h0,h1,small (by rw [List.length_map,List.length_map]; omega),fun q2 H4 s4 e4=>?_⟩))
   have e4':=s4 _ _ e3
   rw [← List.map_append] at e4
   refine ⟨ws,e4',aN (by omega),hN2 _ _ ⟨_,ws++[.ref q2],rfl,aL (s3.trans s4) hlc,ak,by rw [List.length_append,List.length_singleton]; omega,?_⟩⟩
   rw [htk,List.map_append]
   exact fD ((d3.same s4).keepT (pA e4')) ⟨⟨q2,_,rfl,pA e4' _ _ e4,iG _ _⟩,trivial⟩
  rintro σ' H3 ⟨x,ws,rfl,s3,e3,hwl,d3⟩
  obtain ⟨w0,w1,rfl⟩:∃ w0 w1,ws=[w0,w1]:=by
   match ws,d3.len with
   | [a,b],_=>exact ⟨a,b,rfl⟩
  obtain ⟨q0,v0,rfl,g0,dg0⟩:=aQ (show Den H3 w0 (.tup ((k0.1++k0.2.1).map sD)) from d3.1)
  obtain ⟨q1,v1,rfl,g1,dg1⟩:=aQ (show Den H3 w1 (.tup ((k1.1++k1.2.1).map sD)) from d3.2.1)
  rw [vU dg0] at g0
  rw [vU dg1] at g1
  have l0:=hR.len k0 (.head _)
  have l1:=hR.len k1 (.tail _ (.head _))
  refine ⟨⟨_,SqT.of (s3 _ _ a6),Nat.le_refl _⟩,?_⟩
  refine ⟨smn 0,fun e0 he0=>?_⟩
  have s4:=aq he0 (.tup [])
  refine ⟨lc,e0,q0,q1,_,_,rfl,SqL.of (s4 _ _ e3),SqT.of ak,SqT.of (s4 _ _ g0),SqT.of (s4 _ _ g1),?_,?_,small (by rw [List.length_map,List.length_map,List.length_append,List.length_append,l0.1,l0.2.1,l1.1,l1.2.1]; decide),fun t ht=>?_⟩
  ·intro z
   have:=congrArg List.length z
   rw [List.length_map,List.length_append,l0.1] at this
   simp at this
  ·intro z
   have:=congrArg List.length z
   rw [List.length_map,List.length_append,l1.1] at this
   simp at this
  have s5:=aq ht (.tup ((k0.1++k0.2.1).map mkT++(k1.1++k1.2.1).map mkT))
  have s25:=(s3.trans s4).trans s5
  refine ⟨_,rfl,pb,_,_,_,rfl,rfl,SqT.of (s25 _ _ a1),at_ (j:=3) rfl,t,pa,_,_,rfl,rfl,ak,s25 _ _ a8,small (by rw [List.length_append,List.length_map,List.length_map,List.length_map,List.length_append,List.length_append,l0.1,l0.2.1,l1.1,l1.2.1,hR.al2]; decide),fun q H6 s6 e6=>?_⟩
  refine hN _ _ ⟨q,rfl,cs2.same (s25.trans s6),?_⟩
  rw [e6]
  unfold um
  simp only [List.map_append]
 rintro σ H3 ⟨q,rfl,cs3,eq3⟩
 clear cs2 a1 a2 a3 a4 a5 a6 a7 a8
 refine jf (fun σ H'=>∃ (v5 v6 v7 v8:Option V) (he ot th be:List Nat),σ=[some (.ref d),some (.ref pb),some (.int (n:Nat)),some (.ref c),some (.ref q),v5,v6,v7,v8,none,none]∧he∈dJ n L R k0 k1 al∧ot∈dJ n L R k0 k1 al∧th∈dJ (1 - n) L R k0 k1 al∧be∈dJ (1 - n) L R k0 k1 al∧Cs d lo c (.ref pb) (dH L R [k0,k1] al) H (("beyond",mkT be) :: ("there",mkT th) :: ("other",mkT ot) :: ("here",mkT he) :: dO n) H') (fun N hN=>?_) ?_
 ·refine ⟨_,rfl,smn 2,fun w1 hw1=>⟨smn 2,fun t1 ht1=>⟨_,rfl,_,_,rfl,rfl,smn 2,fun w2 hw2=>⟨smn 2,fun t2 ht2=>⟨smn 2,fun ll hll=>?_⟩⟩⟩⟩⟩
  have nw:∀ b,H3 b=none→b≠c∧b≠d∧b≠lo:=fun b hb=>by
   obtain ⟨kvs,z,_⟩:=cs3.e
   exact ⟨(aD z hb).symm,(cs3.p.ne hb).1,(cs3.p.ne hb).2⟩
  have z1:=aq hw1 (.lst [.str "here",.str "other"])
  have z2:=aq ht1 (.tup [.int (n:Nat),.ref w1])
  have z3:=aq hw2 (.lst [.str "there",.str "beyond"])
  have z4:=aq ht2 (.tup [.int ((1:Int) - (n:Nat)),.ref w2])
  have z5:=aq hll (.lst [.ref t1,.ref t2])
  have b1:=nw w1 hw1
  have b2:=nw t1 (z1.free ht1)
  have b3:=nw w2 ((z1.trans z2).free hw2)
  have b4:=nw t2 (((z1.trans z2).trans z3).free ht2)
  have b5:=nw ll ((((z1.trans z2).trans z3).trans z4).free hll)
  have hq3:q≠c∧q≠d∧q≠lo:=by
   obtain ⟨kvs,z,_⟩:=cs3.e
   obtain ⟨cs',l',s',m',y1,y2,_⟩:=cs3.p
   refine ⟨fun e=>?_,fun e=>?_,fun e=>?_⟩
   ·rw [e,z] at eq3; cases eq3
   ·rw [e,y1] at eq3; cases eq3
   ·rw [e,y2] at eq3; cases eq3
  have e1n:(1:Int) - (n:Nat)=((1 - n:Nat):Int):=by omega
  refine ⟨ll,rfl,⟨_,SqL.of ak⟩,?_⟩
  refine lH (K:=K) (a:=ll) (xs:=[.ref t1,.ref t2]) (fun i σ H'=>∃ (v5 v6 v7 v8:Option V) (l:Sv),σ=[some (.ref d),some (.ref pb),some (.int (n:Nat)),some (.ref c),some (.ref q),v5,v6,v7,v8,none,none]∧LR n L R k0 k1 al i l∧l.length≤8+2 * i∧Cs d lo c (.ref pb) (dH L R [k0,k1] al) H l H'∧H' ll=some (.lst [.ref t1,.ref t2])∧H' t1=some (.tup [.int (n:Nat),.ref w1])∧H' w1=some (.lst [.str "here",.str "other"])∧H' t2=some (.tup [.int ((1 - n:Nat):Int),.ref w2])∧H' w2=some (.lst [.str "there",.str "beyond"])∧H' q=some (.tup ((um k0 k1 al).map mkT))) ?_ ?_ ?_ ?_
  ·refine ⟨none,none,none,none,dO n,rfl,rfl,by show 8≤8; decide,cs3.same ((((z1.trans z2).trans z3).trans z4).trans z5),ak,z5 _ _ (z4 _ _ (z3 _ _ ak)),z5 _ _ (z4 _ _ (z3 _ _ (z2 _ _ ak))),?_,z5 _ _ (z4 _ _ ak),z5 _ _ (z4 _ _ (z3 _ _ (z2 _ _ (z1 _ _ eq3))))⟩
   rw [← e1n]
   exact z5 _ _ ak
  ·rintro i σ H' _ ⟨v5,v6,v7,v8,l,rfl,hl,hll2,cs,y1,_⟩
   exact SqL.of y1
  ·rintro i x σ H4 hx ⟨v5,v6,v7,v8,l,rfl,hl,hll2,cs4,y1,y2,y3,y4,y5,y6⟩
   have hi2:i < 2:=(List.getElem?_eq_some_iff.mp hx).1
   obtain ⟨m,ka,kb,wl,t,hm,rfl,ht,hwl,bw,hka,hkb,hnx⟩:∃ (m:Nat) (ka kb:Str) (wl t:Addr),m≤1∧x=.ref t∧H4 t=some (.tup [.int (m:Nat),.ref wl])∧H4 wl=some (.lst [.str ka,.str kb])∧(wl≠c∧wl≠d∧wl≠lo)∧ka ∉ l.map (·.1)∧kb ∉ ka :: l.map (·.1)∧∀ a b,a∈dJ m L R k0 k1 al→b∈dJ m L R k0 k1 al→LR n L R k0 k1 al (i+1) ((kb,mkT b) :: (ka,mkT a) :: l):=by
    match i,hx,hl with
    | 0,hx,hl =>
     cases hx
     have hl:l=dO n:=hl
     subst hl
     refine ⟨n, "here", "other",w1,t1,hn,rfl,y2,y3,b1,?_,?_,fun a b ha hb=>⟨a,b,ha,hb,rfl⟩⟩
     ·show ("here" : Str) ∉ (["side", "no", "0", "1", "400", "w", "gone", "none"]:List Str)
      decide +kernel
     ·show ("other" : Str) ∉ (["here", "side", "no", "0", "1", "400", "w", "gone", "none"]:List Str)
      decide +kernel
    | 1,hx,hl =>
     cases hx
     obtain ⟨he,ot,f1,f2,rfl⟩:=hl
     refine ⟨1 - n, "there", "beyond",w2,t2,by omega,rfl,y4,y5,b3,?_,?_,fun a b ha hb=>⟨he,ot,a,b,f1,f2,ha,hb,rfl⟩⟩
     ·show ("there" : Str) ∉ (["other", "here", "side", "no", "0", "1", "400", "w", "gone", "none"]:List Str)
      decide +kernel
     ·show ("beyond" : Str) ∉ (["there", "other", "here", "side", "no", "0", "1", "400", "w", "gone", "none"]:List Str)
      decide +kernel
    | i+2,hx,_=>simp at hx
   obtain ⟨pb',pl,pr,pk,pa,ls,rs,us,ebp,a1,a2,a3,a4,a5,a6,a7,a8⟩:=iV cs4.b
   cases ebp
   obtain ⟨pp,us',hat,hpp,dpp⟩:=qe (pk:=pk) (pa:=pa) hm a2 a3 a4 a5
   have hul:=dpp.len
   rw [List.length_map] at hul
   have hsl:(sdP m L R).length≤19:=by
    have:=hR.l19
    have:=hR.r19
    unfold sdP
    split <;> omega
   refine ⟨t,_,rfl,SqT.of ht,rfl,_,_,rfl,_,_,rfl,rfl,?_⟩
   refine jf (fun σ H'=>∃ lc:Addr,σ=[some (.ref d),some (.ref pb),some (.int (n:Nat)),some (.ref c),some (.ref q),some (.int (m:Nat)),some (.ref wl),some (.ref lc),v8,none,none]∧Same H4 H'∧H4 lc=none∧H' lc=some (.lst ((dJ m L R k0 k1 al).map mkT))) (fun N2 hN2=>?_) ?_
   ·refine ⟨_,rfl,_,rfl,pb,_,_,_,rfl,rfl,SqT.of a1,hat,pp,rfl,⟨_,SqT.of hpp⟩,fun lc hlc=>?_⟩
    refine cY (J:=Itt K pp) (l:=lc) us'.length (fun i σ' H'=>∃ x:Option V,σ'=[some (.ref q),x]∧Same H4 H'∧H' lc=some (.lst (((((sdP m L R).take i).map (·.1)).filter fun x=>decide (x ∉ um k0 k1 al)).map mkT))) ⟨none,rfl,aq hlc _,ak⟩ ?_ ?_
    ·rintro σ' H' ⟨x,rfl,s5,e5⟩
     rw [hul,List.take_length] at e5
     exact ⟨⟨_,SqT.of (s5 _ _ hpp),Nat.le_refl _⟩,hN2 _ _ ⟨lc,rfl,s5,hlc,e5⟩⟩
    ·rintro j σ' H' hj ⟨x,rfl,s5,e5⟩
     have hjl:j < (sdP m L R).length:=by omega
     refine ⟨⟨_,_,SqT.of (s5 _ _ hpp),bM hj⟩,?_⟩
     rintro N3 hN3 y H'' ⟨rfl,hy⟩
     have ey:y=us'[j]:=Option.some.inj ((hy _ (SqT.of (s5 _ _ hpp))).symm.trans (bM hj))
     have dy:Den H4 us'[j] (bG (sdP m L R)[j]):=at_of dpp (bM hj) (by rw [List.getElem?_map,bM hjl]; rfl)
     have htk:=take_one (bM hjl)
     rw [← ey] at dy
     generalize (sdP m L R)[j]=pt at dy htk
     obtain ⟨b,pm,rfl,hb,hpm⟩:=iT (dy.same s5)
     refine gN ⟨_,rfl,b,_,_,_,rfl,rfl,SqT.of hb,aR _ _,_,rfl,q,_,rfl,.inr (SqT.of (s5 _ _ y6)),rfl,dY _,_,rfl,?_⟩
     rw [show (if true=true then !inV (mkT pt.1) ((um k0 k1 al).map mkT) else inV (mkT pt.1) ((um k0 k1 al).map mkT))=!inV (mkT pt.1) ((um k0 k1 al).map mkT) from rfl,lB]
     refine fV (fun z=>?_) (fun z=>?_)
     ·have z:pt.1 ∉ um k0 k1 al:=by simpa using z
      refine ⟨_,rfl,b,_,_,_,rfl,rfl,SqT.of hb,aR _ _,_,e5,aN ?_,hN3 _ _ ⟨_,rfl,aL s5 hlc,?_⟩⟩
      ·rw [List.length_map]
       refine Nat.le_trans (List.length_filter_le _ _) ?_
       rw [List.length_map,List.length_take]
       omega
      ·rw [ak,htk,List.map_append,List.filter_append,List.map_append]
       show some (HO.lst (_++[mkT pt.1]))=some (HO.lst (_++List.map mkT (List.filter _ [pt.1])))
       rw [List.filter_cons_of_pos (by simpa using z)]
       rfl
     ·have z:pt.1∈um k0 k1 al:=by simpa using z
      refine hN3 _ _ ⟨_,rfl,s5,?_⟩
      rw [e5,htk,List.map_append,List.filter_append]
      show _=some (HO.lst (List.map mkT (_++List.filter _ [pt.1])))
      rw [List.filter_cons_of_neg (by simpa using z),List.filter_nil,List.append_nil]
   rintro σ H5 ⟨lc,rfl,s5,hlc,e5⟩
   have hpos:=FT hR hm
   have hrl:(dJ m L R k0 k1 al).length≤19:=by
    unfold dJ
    refine Nat.le_trans (List.length_filter_le _ _) ?_
    rw [List.length_map]
    exact hsl
   have hrm:∀ v∈(dJ m L R k0 k1 al).map mkT,∃ x,v=mkT x∧x∈dJ m L R k0 k1 al:=fun v hv=>by
    obtain ⟨x,hx,rfl⟩:=List.mem_map.mp hv
    exact ⟨x,rfl,hx⟩
   generalize dJ m L R k0 k1 al=rs at e5 hpos hrl hrm hnx
   have bl:lc≠c∧lc≠d∧lc≠lo:=by
    obtain ⟨kvs,z,_⟩:=cs4.e
    exact ⟨(aD z hlc).symm,(cs4.p.ne hlc).1,(cs4.p.ne hlc).2⟩
   have cs5:=cs4.same s5
   refine ⟨_,rfl,_,rfl,lc,_,rfl,.inl (SqL.of e5),?_⟩
   rw [List.length_map]
   refine ⟨d,lo,_,rfl,cs5.p,by omega,by omega,fun r H6 r0 r1 p6 o6=>?_⟩
   obtain ⟨r,rfl⟩:=Int.eq_ofNat_of_zero_le r0
   have cs6:=cs5.old p6 o6
   have e6:H6 lc=some (.lst (rs.map mkT)):=o6 _ _ e5 bl.2.1 bl.2.2
   have hrl2:r < (rs.map mkT).length:=by rw [List.length_map]; omega
   obtain ⟨va,hva,hma⟩:=Ea (xs:=rs.map mkT) (r:=((r:Nat):Int)) (by omega) (by omega)
   obtain ⟨vb,hvb,hmb⟩:=Dm hrl2
   obtain ⟨xa,rfl,hxa⟩:=hrm va hma
   obtain ⟨xb,rfl,hxb⟩:=hrm vb hmb
   refine ⟨_,rfl,_,rfl,lc,_,_,_,rfl,rfl,SqL.of e6,hva,_,rfl,_,rfl,_,_,rfl,rfl,lc,_,_,_,rfl,rfl,SqL.of e6,hvb,smn 2,fun tt htt=>?_⟩
   have s7:=aq htt (.tup [mkT xa,mkT xb])
   have cs7:=cs6.same s7
   have w6:H6 wl=some (.lst [.str ka,.str kb]):=o6 _ _ (s5 _ _ hwl) bw.2.1 bw.2.2
   obtain ⟨H8,dp8,cs8,fr8⟩:=cs7.put ka (mkT xa) (by omega) hka
   obtain ⟨H9,dp9,cs9,fr9⟩:=cs8.put kb (mkT xb) (by show l.length+1≤100; omega) hkb
   refine ⟨tt,_,rfl,SqT.of ak,rfl,_,_,rfl,_,rfl,_,rfl,wl,_,_,_,rfl,rfl,SqL.of (s7 _ _ w6),aR _ _,c,H8,rfl,dp8,_,_,rfl,_,rfl,_,rfl,wl,_,_,_,rfl,rfl,SqL.of (fr8 _ _ (s7 _ _ w6) bw.1),aJ (xs:=[V.str ka,V.str kb]) (j:=1) rfl,c,H9,rfl,dp9,rfl,?_⟩
   have keep:∀ b o,H4 b=some o→(b≠c∧b≠d∧b≠lo)→H9 b=some o:=fun b o e ⟨n1,n2,n3⟩=>fr9 _ _ (fr8 _ _ (s7 _ _ (o6 _ _ (s5 _ _ e) n2 n3)) n1) n1
   exact ⟨_,_,_,_,_,rfl,hnx xa xb hxa hxb,by show l.length+1+1≤8+2 * (i+1); omega,cs9,keep _ _ y1 b5,keep _ _ y2 b2,keep _ _ y3 b1,keep _ _ y4 b4,keep _ _ y5 b3,keep _ _ y6 hq3⟩
  ·rintro σ H4 ⟨v5,v6,v7,v8,l,rfl,hl,hll2,cs4,_⟩
   obtain ⟨he,ot,th,be,f1,f2,f3,f4,rfl⟩:=hl
   exact hN _ _ ⟨v5,v6,v7,v8,he,ot,th,be,rfl,f1,f2,f3,f4,cs4⟩
 rintro σ H4 ⟨v5,v6,v7,v8,he,ot,th,be,rfl,f1,f2,f3,f4,cs4⟩
 clear cs3 eq3
 obtain ⟨pb',pl,pr,pk,pa,ls,rs,us,ebp,a1,a2,a3,a4,a5,a6,a7,a8⟩:=iV cs4.b
 cases ebp
 obtain ⟨u0,u1,rfl⟩:∃ u0 u1,us=[u0,u1]:=by
  match us,a7.len with
  | [a,b],_=>exact ⟨a,b,rfl⟩
 obtain ⟨b0,p0,p1,p3,p4,p5,us0,us1,rfl,hb,h0,hd0,h1,hd1,h3,h4,h5⟩:=lM a7.1
 obtain ⟨b1,r0,r1,r3,r4,r5,vs0,vs1,rfl,hb',g0,gd0,g1,gd1,g3,g4,g5⟩:=lM a7.2.1
 rw [vU hd0] at h0
 rw [vU hd1] at h1
 rw [vU gd0] at g0
 rw [vU gd1] at g1
 have l0:=hR.len k0 (.head _)
 have l1:=hR.len k1 (.tail _ (.head _))
 have sd0:∀ m:Nat,m≤1→∃ p,atI [V.ref p0,V.ref p1,V.int k0.2.2.1,V.ref p3] (m:Nat)=some (.ref p)∧H4 p=some (.tup ((bA m k0).map mkT))∧(bA m k0).length=2:=fun m hm=>by
  match m,hm with
  | 0,_=>exact ⟨p0,aR _ _,h0,l0.1⟩
  | 1,_=>exact ⟨p1,aJ (xs:=[V.ref p0,V.ref p1,V.int k0.2.2.1,V.ref p3]) (j:=1) rfl,h1,l0.2.1⟩
 have sd1:∀ m:Nat,m≤1→∃ p,atI [V.ref r0,V.ref r1,V.int k1.2.2.1,V.ref r3] (m:Nat)=some (.ref p)∧H4 p=some (.tup ((bA m k1).map mkT))∧(bA m k1).length=2:=fun m hm=>by
  match m,hm with
  | 0,_=>exact ⟨r0,aR _ _,g0,l1.1⟩
  | 1,_=>exact ⟨r1,aJ (xs:=[V.ref r0,V.ref r1,V.int k1.2.2.1,V.ref r3]) (j:=1) rfl,g1,l1.2.1⟩
 refine jf (fun σ H'=>∃ on:List Nat,σ=[some (.ref d),some (.ref pb),some (.int (n:Nat)),some (.ref c),some (.ref q),v5,v6,v7,v8,none,none]∧on∈bA n k0∧Cs d lo c (.ref pb) (dH L R [k0,k1] al) H (("one",mkT on) :: ("beyond",mkT be) :: ("there",mkT th) :: ("other",mkT ot) :: ("here",mkT he) :: dO n) H'∧∀ b vs,H4 b=some (.tup vs)→H' b=some (.tup vs)) (fun N hN=>?_) ?_
 ·obtain ⟨p,hpa,hps,hpl⟩:=sd0 n hn
  refine ⟨_,rfl,_,rfl,pb,_,_,_,rfl,rfl,SqT.of a1,aJ (xs:=[V.ref pl,V.ref pr,V.ref pk,V.ref pa]) (j:=2) rfl,pk,_,_,_,rfl,rfl,SqT.of a6,aR _ _,_,rfl,b0,_,_,_,rfl,rfl,SqT.of hb,hpa,?_⟩
  refine ⟨d,lo,p,_,rfl,cs4.p,hps,(fun z=>by rw [z] at hpl; cases hpl),by omega,fun x H5 hx p5 o5=>?_⟩
  have cs5:=cs4.old p5 o5
  obtain ⟨H6,dp6,cs6,fr6⟩:=cs5.put "one" (mkT x) (by show 12≤100; decide) (by
   show ("one" : Str) ∉ (["beyond", "there", "other", "here", "side", "no", "0", "1", "400", "w", "gone", "none"]:List Str)
   decide +kernel)
  obtain ⟨kvs5,ek5,_⟩:=cs5.e
  exact ⟨_,rfl,c,H6,rfl,dp6,hN _ _ ⟨x,rfl,hx,cs6,fun b vs e=>fr6 _ _ (bI cs4.p o5 _ _ e) (fun z=>by subst z; rw [bI cs4.p o5 _ _ e] at ek5; cases ek5)⟩⟩
 rintro σ H5 ⟨on,rfl,f5,cs5,kt5⟩
 refine jf (fun σ H'=>∃ tw:List Nat,σ=[some (.ref d),some (.ref pb),some (.int (n:Nat)),some (.ref c),some (.ref q),v5,v6,v7,v8,none,none]∧tw∈bA n k1∧Cs d lo c (.ref pb) (dH L R [k0,k1] al) H (("two",mkT tw) :: ("one",mkT on) :: ("beyond",mkT be) :: ("there",mkT th) :: ("other",mkT ot) :: ("here",mkT he) :: dO n) H'∧∀ b vs,H4 b=some (.tup vs)→H' b=some (.tup vs)) (fun N hN=>?_) ?_
 ·obtain ⟨p,hpa,hps,hpl⟩:=sd1 n hn
  refine ⟨_,rfl,_,rfl,pb,_,_,_,rfl,rfl,SqT.of (kt5 _ _ a1),aJ (xs:=[V.ref pl,V.ref pr,V.ref pk,V.ref pa]) (j:=2) rfl,pk,_,_,_,rfl,rfl,SqT.of (kt5 _ _ a6),aJ (xs:=[V.ref b0,V.ref b1]) (j:=1) rfl,_,rfl,b1,_,_,_,rfl,rfl,SqT.of (kt5 _ _ hb'),hpa,?_⟩
  refine ⟨d,lo,p,_,rfl,cs5.p,kt5 _ _ hps,(fun z=>by rw [z] at hpl; cases hpl),by omega,fun x H6 hx p6 o6=>?_⟩
  have cs6:=cs5.old p6 o6
  obtain ⟨H7,dp7,cs7,fr7⟩:=cs6.put "two" (mkT x) (by show 13≤100; decide) (by
   show ("two" : Str) ∉ (["one", "beyond", "there", "other", "here", "side", "no", "0", "1", "400", "w", "gone", "none"]:List Str)
   decide +kernel)
  obtain ⟨kvs6,ek6,_⟩:=cs6.e
  exact ⟨_,rfl,c,H7,rfl,dp7,hN _ _ ⟨x,rfl,hx,cs7,fun b vs e=>fr7 _ _ (bI cs5.p o6 _ _ (kt5 _ _ e)) (fun z=>by subst z; rw [bI cs5.p o6 _ _ (kt5 _ _ e)] at ek6; cases ek6)⟩⟩
 clear kt5 cs5
 rintro σ H5 ⟨tw,rfl,f6,cs5,kt5⟩
 refine jf (fun σ H'=>∃ fa:List Nat,σ=[some (.ref d),some (.ref pb),some (.int (n:Nat)),some (.ref c),some (.ref q),v5,v6,v7,v8,none,none]∧(fa∈bA (1 - n) k0∨fa∈bA (1 - n) k1)∧Cs d lo c (.ref pb) (dH L R [k0,k1] al) H (("far",mkT fa) :: ("two",mkT tw) :: ("one",mkT on) :: ("beyond",mkT be) :: ("there",mkT th) :: ("other",mkT ot) :: ("here",mkT he) :: dO n) H'∧∀ b vs,H4 b=some (.tup vs)→H' b=some (.tup vs)) (fun N hN=>?_) ?_
 ·refine ⟨_,rfl,_,rfl,pb,_,_,_,rfl,rfl,SqT.of (kt5 _ _ a1),aJ (xs:=[V.ref pl,V.ref pr,V.ref pk,V.ref pa]) (j:=2) rfl,?_⟩
  refine ⟨_,rfl,d,lo,2,rfl,cs5.p,by decide,by decide,fun r H6 q0 q1 p6 o6=>?_⟩
  obtain ⟨r,rfl⟩:=Int.eq_ofNat_of_zero_le q0
  have cs6:=cs5.old p6 o6
  have kt6:∀ b vs,H4 b=some (.tup vs)→H6 b=some (.tup vs):=fun b vs e=>bI cs5.p o6 _ _ (kt5 _ _ e)
  have e1n:(1:Int) - (n:Nat)=((1 - n:Nat):Int):=by omega
  obtain ⟨bb,cells,p,hbk,hbb,hpa,hps,hpl,hor⟩:∃ (bb:Addr) (cells:List V) (p:Addr),atI [V.ref b0,V.ref b1] ((r:Nat):Int)=some (.ref bb)∧H6 bb=some (.tup cells)∧atI cells ((1:Int) - (n:Nat))=some (.ref p)∧∃ zs:Nms,H6 p=some (.tup (zs.map mkT))∧zs.length=2∧∀ x∈zs,x∈bA (1 - n) k0∨x∈bA (1 - n) k1:=by
   match r,q1 with
   | 0,_ =>
    obtain ⟨p,y1,y2,y3⟩:=sd0 (1 - n) (by omega)
    exact ⟨b0,_,p,aR _ _,kt6 _ _ hb,by rw [e1n]; exact y1,_,kt6 _ _ y2,y3,fun x hx=>.inl hx⟩
   | 1,_ =>
    obtain ⟨p,y1,y2,y3⟩:=sd1 (1 - n) (by omega)
    exact ⟨b1,_,p,aJ (xs:=[V.ref b0,V.ref b1]) (j:=1) rfl,kt6 _ _ hb',by rw [e1n]; exact y1,_,kt6 _ _ y2,y3,fun x hx=>.inr hx⟩
   | r+2,z=>exact absurd z (by omega)
  refine ⟨pk,_,_,_,rfl,rfl,SqT.of (kt6 _ _ a6),hbk,_,rfl,_,_,rfl,rfl,bb,_,_,_,rfl,rfl,SqT.of hbb,hpa,?_⟩
  obtain ⟨hpl2,hor⟩:=hor
  refine ⟨d,lo,p,hps,rfl,cs6.p,hpl,(fun z=>by rw [z] at hpl2; cases hpl2),by omega,fun x H7 hx p7 o7=>?_⟩
  have cs7:=cs6.old p7 o7
  obtain ⟨H8,dp8,cs8,fr8⟩:=cs7.put "far" (mkT x) (by show 14≤100; decide) (by
   show ("far" : Str) ∉ (["two", "one", "beyond", "there", "other", "here", "side", "no", "0", "1", "400", "w", "gone", "none"]:List Str)
   decide +kernel)
  obtain ⟨kvs7,ek7,_⟩:=cs7.e
  exact ⟨_,rfl,c,H8,rfl,dp8,hN _ _ ⟨x,rfl,hor x hx,cs8,fun b vs e=>fr8 _ _ (bI cs6.p o7 _ _ (kt6 _ _ e)) (fun z=>by subst z; rw [bI cs6.p o7 _ _ (kt6 _ _ e)] at ek7; cases ek7)⟩⟩
 clear kt5 cs5
 rintro σ H5 ⟨fa,rfl,f7,cs5,kt5⟩
 obtain ⟨pp,us',hat,hpp,dpp⟩:=qe (pk:=pk) (pa:=pa) hn a2 a3 a4 a5
 have hul:=dpp.len
 rw [List.length_map] at hul
 have hsl:(sdP n L R).length≤19:=by
  have:=hR.l19
  have:=hR.r19
  unfold sdP
  split <;> omega
 have n3:∀ b,H5 b=none→b≠c∧b≠d∧b≠lo:=fun b hb=>by
  obtain ⟨kvs,z,_⟩:=cs5.e
  exact ⟨(aD z hb).symm,(cs5.p.ne hb).1,(cs5.p.ne hb).2⟩
 refine jf (fun σ H'=>∃ lw:Addr,σ=[some (.ref d),some (.ref pb),some (.int (n:Nat)),some (.ref c),some (.ref q),v5,v6,v7,v8,some (.ref lw),none]∧Same H5 H'∧(lw≠c∧lw≠d∧lw≠lo)∧H' lw=some (.lst (((sdP n L R).map (·.1)).map mkT))) (fun N hN=>?_) ?_
 ·refine ⟨_,rfl,_,rfl,pb,_,_,_,rfl,rfl,SqT.of (kt5 _ _ a1),hat,pp,rfl,⟨_,SqT.of (kt5 _ _ hpp)⟩,fun lc hlc=>?_⟩
  refine cY (J:=Itt K pp) (l:=lc) us'.length (fun i σ' H'=>∃ x:Option V,σ'=[x]∧Same H5 H'∧H' lc=some (.lst ((((sdP n L R).take i).map (·.1)).map mkT))) ⟨none,rfl,aq hlc _,ak⟩ ?_ ?_
  ·rintro σ' H' ⟨x,rfl,s6,e6⟩
   rw [hul,List.take_length] at e6
   exact ⟨⟨_,SqT.of (s6 _ _ (kt5 _ _ hpp)),Nat.le_refl _⟩,hN _ _ ⟨lc,rfl,s6,n3 _ hlc,e6⟩⟩
  ·rintro j σ' H' hj ⟨x,rfl,s6,e6⟩
   have hjl:j < (sdP n L R).length:=by omega
   refine ⟨⟨_,_,SqT.of (s6 _ _ (kt5 _ _ hpp)),bM hj⟩,?_⟩
   rintro N3 hN3 y H'' ⟨rfl,hy⟩
   have ey:y=us'[j]:=Option.some.inj ((hy _ (SqT.of (s6 _ _ (kt5 _ _ hpp)))).symm.trans (bM hj))
   have dy:Den H5 us'[j] (bG (sdP n L R)[j]):=(at_of dpp (bM hj) (by rw [List.getElem?_map,bM hjl]; rfl)).keepT kt5
   have htk:=take_one (bM hjl)
   rw [← ey] at dy
   generalize (sdP n L R)[j]=pt at dy htk
   obtain ⟨b,pm,rfl,hb,hpm⟩:=iT (dy.same s6)
   refine gN (vf (rR ⟨_,rfl,b,_,_,_,rfl,rfl,SqT.of hb,aR _ _,_,e6,aN (by rw [List.length_map,List.length_map,List.length_take]; omega),hN3 _ _ ⟨_,rfl,aL s6 hlc,?_⟩⟩))
   rw [ak,htk,List.map_append,List.map_append]
   rfl
 rintro σ H6 ⟨lw,rfl,s6,bw,ew⟩
 have cs6:=cs5.same s6
 have kt6:∀ b vs,H4 b=some (.tup vs)→H6 b=some (.tup vs):=fun b vs e=>s6 _ _ (kt5 _ _ e)
 clear cs5 kt5 n3 s6
 have n3:∀ b,H6 b=none→b≠c∧b≠d∧b≠lo:=fun b hb=>by
  obtain ⟨kvs,z,_⟩:=cs6.e
  exact ⟨(aD z hb).symm,(cs6.p.ne hb).1,(cs6.p.ne hb).2⟩
 refine jf (fun σ H'=>∃ ln:List Nat,σ=[some (.ref d),some (.ref pb),some (.int (n:Nat)),some (.ref c),some (.ref q),v5,v6,v7,v8,some (.ref lw),none]∧(ln∈al∧ln∈(sdP n L R).map (·.1))∧Cs d lo c (.ref pb) (dH L R [k0,k1] al) H (("lone",mkT ln) :: ("far",mkT fa) :: ("two",mkT tw) :: ("one",mkT on) :: ("beyond",mkT be) :: ("there",mkT th) :: ("other",mkT ot) :: ("here",mkT he) :: dO n) H'∧∀ b vs,H4 b=some (.tup vs)→H' b=some (.tup vs)) (fun N hN=>?_) ?_
 ·refine ⟨_,rfl,pb,_,_,_,rfl,rfl,SqT.of (kt6 _ _ a1),aJ (xs:=[V.ref pl,V.ref pr,V.ref pk,V.ref pa]) (j:=3) rfl,pa,rfl,⟨_,SqT.of (kt6 _ _ a8)⟩,fun lc hlc=>?_⟩
  refine cY (J:=Itt K pa) (l:=lc) al.length (fun i σ' H'=>∃ x:Option V,σ'=[some (.ref lw),x]∧Same H6 H'∧H' lc=some (.lst (((al.take i).filter fun x=>decide (x∈(sdP n L R).map (·.1))).map mkT))) ⟨none,rfl,aq hlc _,ak⟩ ?_ ?_
  rotate_left
  ·rintro j σ' H' hj ⟨x,rfl,s7,e7⟩
   have hat:(al.map mkT)[j]?=some (mkT al[j]):=by rw [List.getElem?_map,bM hj]; rfl
   refine ⟨⟨_,_,SqT.of (s7 _ _ (kt6 _ _ a8)),hat⟩,?_⟩
   rintro N3 hN3 y H'' ⟨rfl,hy⟩
   have ey:y=mkT al[j]:=Option.some.inj ((hy _ (SqT.of (s7 _ _ (kt6 _ _ a8)))).symm.trans hat)
   have htk:=take_one (bM hj)
   generalize al[j]=z at ey htk
   subst ey
   refine gN ⟨_,rfl,_,rfl,lw,_,rfl,.inl (SqL.of (s7 _ _ ew)),rfl,dY _,_,rfl,?_⟩
   rw [show (if false=true then !inV (mkT z) (((sdP n L R).map (·.1)).map mkT) else inV (mkT z) (((sdP n L R).map (·.1)).map mkT))=inV (mkT z) (((sdP n L R).map (·.1)).map mkT) from rfl,lB]
   refine fV (fun hz=>?_) (fun hz=>?_)
   ·refine ⟨_,rfl,_,e7,aN ?_,hN3 _ _ ⟨_,rfl,aL s7 hlc,?_⟩⟩
    ·rw [List.length_map]
     refine Nat.le_trans (List.length_filter_le _ _) ?_
     rw [List.length_take]
     have:=hR.al2
     omega
    ·rw [ak,htk,List.filter_append,List.map_append,List.filter_cons_of_pos (by exact hz)]
     rfl
   ·refine hN3 _ _ ⟨_,rfl,s7,?_⟩
    rw [e7,htk,List.filter_append,List.filter_cons_of_neg (by exact hz),List.filter_nil,List.append_nil]
  rintro σ' H7 ⟨x,rfl,s7,e7⟩
  rw [List.take_length] at e7
  have hpos:=Hf hR hn
  have hmem:∀ x∈(al.filter fun x=>decide (x∈(sdP n L R).map (·.1))),x∈al∧x∈(sdP n L R).map (·.1):=fun x hx=>⟨(List.mem_filter.mp hx).1,of_decide_eq_true (List.mem_filter.mp hx).2⟩
  generalize (al.filter fun x=>decide (x∈(sdP n L R).map (·.1)))=fl at e7 hpos hmem
  have cs7:=cs6.same s7
  obtain ⟨H8,dp8,cs8,fr8⟩:=cs7.put "lone" (mkT fl[0]) (by show 15≤100; decide) (by
   show ("lone" : Str) ∉ (["far", "two", "one", "beyond", "there", "other", "here", "side", "no", "0", "1", "400", "w", "gone", "none"]:List Str)
   decide +kernel)
  obtain ⟨kvs7,ek7,_⟩:=cs7.e
  have kt7:∀ b vs,H4 b=some (.tup vs)→H7 b=some (.tup vs):=fun b vs e=>s7 _ _ (kt6 _ _ e)
  refine ⟨⟨_,SqT.of (kt7 _ _ a8),by rw [List.length_map]; exact Nat.le_refl _⟩,lc,_,_,_,rfl,rfl,SqL.of e7,aJ (xs:=fl.map mkT) (j:=0) (by rw [List.getElem?_map,bM hpos]; rfl),?_⟩
  exact ⟨_,rfl,c,H8,rfl,dp8,hN _ _ ⟨fl[0],rfl,hmem _ (List.getElem_mem hpos),cs8,fun b vs e=>fr8 _ _ (kt7 _ _ e) (fun z=>by subst z; rw [kt7 _ _ e] at ek7; cases ek7)⟩⟩
 clear cs6 kt6 n3 ew
 rintro σ H6 ⟨ln,rfl,f8,cs6,kt6⟩
 refine jf (fun σ H'=>∃ (lt:Addr) (sz:Nat) (tx:List Nat) (xs:List V),σ=[some (.ref d),some (.ref pb),some (.int (n:Nat)),some (.ref c),some (.ref q),v5,v6,v7,v8,some (.ref lw),some (.ref lt)]∧Same H6 H'∧H' lt=some (.lst (mkT tx :: xs))∧tx.length=sz∧Bj L R he=sz∧tx.length≤400) (fun N hN=>?_) ?_
 ·refine ⟨_,rfl,_,rfl,pb,_,_,_,rfl,rfl,SqT.of (kt6 _ _ a1),hat,pp,rfl,⟨_,SqT.of (kt6 _ _ hpp)⟩,fun lc hlc=>?_⟩
  refine cY (J:=Itt K pp) (l:=lc) us'.length (fun i σ' H'=>∃ x:Option V,σ'=[some (.ref c),x]∧Same H6 H'∧H' lc=some (.lst (((((sdP n L R).take i).filter fun p=>decide (p.1=he)).map (·.2.1)).map mkT))) ⟨none,rfl,aq hlc _,ak⟩ ?_ ?_
  rotate_left
  ·rintro j σ' H' hj ⟨x,rfl,s7,e7⟩
   have hjl:j < (sdP n L R).length:=by omega
   refine ⟨⟨_,_,SqT.of (s7 _ _ (kt6 _ _ hpp)),bM hj⟩,?_⟩
   rintro N3 hN3 y H'' ⟨rfl,hy⟩
   have ey:y=us'[j]:=Option.some.inj ((hy _ (SqT.of (s7 _ _ (kt6 _ _ hpp)))).symm.trans (bM hj))
   have dy:Den H6 us'[j] (bG (sdP n L R)[j]):=(at_of dpp (bM hj) (by rw [List.getElem?_map,bM hjl]; rfl)).keepT kt6
   have htk:=take_one (bM hjl)
   rw [← ey] at dy
   generalize (sdP n L R)[j]=pt at dy htk
   obtain ⟨b,pm,rfl,hb,hpm⟩:=iT (dy.same s7)
   have hg:=(cs6.same s7).get (k:="here") (u:=mkT he) (by simp)
   refine gN ⟨_,rfl,b,_,_,_,rfl,rfl,SqT.of hb,aR _ _,_,rfl,c,_,rfl,hg,rfl,_,rfl,?_⟩
   rw [Jz]
   refine fV (fun hz=>?_) (fun hz=>?_)
   ·refine ⟨_,rfl,b,_,_,_,rfl,rfl,SqT.of hb,aJ (xs:=[mkT pt.1,mkT pt.2.1,.ref pm]) (j:=1) rfl,_,e7,aN ?_,hN3 _ _ ⟨_,rfl,aL s7 hlc,?_⟩⟩
    ·rw [List.length_map,List.length_map]
     refine Nat.le_trans (List.length_filter_le _ _) ?_
     rw [List.length_take]
     omega
    ·rw [ak,htk,List.filter_append,List.map_append,List.map_append,List.filter_cons_of_pos (by exact hz)]
     rfl
   ·refine hN3 _ _ ⟨_,rfl,s7,?_⟩
    rw [e7,htk,List.filter_append,List.filter_cons_of_neg (by exact hz),List.filter_nil,List.append_nil]
  rintro σ' H7 ⟨x,rfl,s7,e7⟩
  rw [hul,List.take_length] at e7
  have hin:=(List.mem_filter.mp f1).1
  obtain ⟨p,hp1,hp2⟩:=List.mem_map.mp hin
  have hfi:p∈(sdP n L R).filter fun p=>decide (p.1=he):=List.mem_filter.mpr ⟨hp1,decide_eq_true hp2⟩
  have hall:∀ p∈(sdP n L R).filter (fun p=>decide (p.1=he)),Bj L R he=p.2.1.length∧p.2.1.length≤400:=fun p hp=>by
   obtain ⟨h1,h2⟩:=List.mem_filter.mp hp
   have h2:p.1=he:=of_decide_eq_true h2
   have:=wL hR.nd (zp h1)
   rw [h2] at this
   refine ⟨?_,(hR.parts p (zp h1)).2.1⟩
   unfold Bj
   rw [this]
  generalize (sdP n L R).filter (fun p=>decide (p.1=he))=fl at e7 hfi hall
  match fl,hfi,e7,hall with
  | p0 :: fl,_,e7,hall =>
   obtain ⟨g1,g2⟩:=hall p0 (.head _)
   exact ⟨⟨_,SqT.of (s7 _ _ (kt6 _ _ hpp)),Nat.le_refl _⟩,hN _ _ ⟨lc,_,p0.2.1,_,rfl,s7,e7,rfl,g1,g2⟩⟩
 rintro σ H7 ⟨lt,sz,tx,xs,rfl,s7,e7,hsz,f9,htl⟩
 have cs7:=cs6.same s7
 obtain ⟨H8,dp8,cs8,fr8⟩:=cs7.put "size" (.int ((sz:Nat):Int)) (by show 16≤100; decide) (by
  show ("size" : Str) ∉ (["lone", "far", "two", "one", "beyond", "there", "other", "here", "side", "no", "0", "1", "400", "w", "gone", "none"]:List Str)
  decide +kernel)
 have hg8:=cs8.get (k:="size") (u:=.int ((sz:Nat):Int)) (.head _)
 obtain ⟨H9,dp9,cs9,fr9⟩:=cs8.put "more" (.int ((sz:Nat)+1)) (by show 17≤100; decide) (by
  show ("more" : Str) ∉ (["size", "lone", "far", "two", "one", "beyond", "there", "other", "here", "side", "no", "0", "1", "400", "w", "gone", "none"]:List Str)
  decide +kernel)
 refine ⟨_,rfl,lt,_,_,_,rfl,rfl,SqL.of e7,aR _ _,_,rfl,by rw [lV]; exact bF (by omega),?_⟩
 rw [lV,hsz]
 refine ⟨_,rfl,c,H8,rfl,dp8,?_⟩
 refine ⟨_,rfl,c,_,rfl,hg8,_,_,rfl,rfl,_,rfl,c,H9,rfl,dp9,?_⟩
 exact ⟨_,rfl,k c he ot th be on tw fa ln sz H9 ⟨f1,f2,f3,f4,f5,f6,f7,f8,f9⟩ cs9⟩
end
abbrev It2:=Str ⊕ List Str
def comma (w:Str):Bool:=!(Builtin.Str.occurrences w "," 0 w.length 1).isEmpty
def je (w:Str):It2:=if comma w then .inr ((Txt.split w ",").filter fun x=>decide (x ≠ "")) else .inl w
def VL (kvs:List (Key × V)):List Str→List V→Prop
 | [],[]=>True
 | x :: xs,v :: vs=>dU kvs (Sum.inr x:Key)=some v∧VL kvs xs vs
 | _,_=>False
def Th1 (H:Hp) (kvs:List (Key × V)):It2→V→Prop
 | .inl w,u=>dU kvs (Sum.inr w:Key)=some u
 | .inr ns,u=>∃ (p:Addr) (vs:List V),u=.ref p∧H p=some (.tup vs)∧VL kvs ns vs
def ThR (H:Hp) (kvs:List (Key × V)):List It2→List V→Prop
 | [],[]=>True
 | w :: ws,u :: us=>Th1 H kvs w u∧ThR H kvs ws us
 | _,_=>False
theorem VL.snoc {kvs:List (Key × V)}:∀ {ns:List Str} {vs:List V} {x:Str} {v:V},VL kvs ns vs→dU kvs (Sum.inr x:Key)=some v→VL kvs (ns++[x]) (vs++[v])
 | [],[],_,_,_,h=>⟨h,trivial⟩
 | _ :: _,_ :: _,_,_,g,h=>⟨g.1,VL.snoc g.2 h⟩
 | [],_ :: _,_,_,g,_=>g.elim
 | _ :: _,[],_,_,g,_=>g.elim
theorem Th1.keepT {H H':Hp} {kvs:List (Key × V)} {w:It2} {u:V} (k:∀ b vs,H b=some (.tup vs)→H' b=some (.tup vs)) (h:Th1 H kvs w u):Th1 H' kvs w u:=by
 cases w with
 | inl w=>exact h
 | inr ns =>
  obtain ⟨p,vs,e,hp,hv⟩:=h
  exact ⟨p,vs,e,k _ _ hp,hv⟩
theorem ThR.keepT {H H':Hp} {kvs:List (Key × V)} (k:∀ b vs,H b=some (.tup vs)→H' b=some (.tup vs)):∀ {ws:List It2} {us:List V},ThR H kvs ws us→ThR H' kvs ws us
 | [],[],_=>trivial
 | _ :: _,_ :: _,h=>⟨h.1.keepT k,ThR.keepT k h.2⟩
 | [],_ :: _,h=>h.elim
 | _ :: _,[],h=>h.elim
theorem ThR.snoc {H:Hp} {kvs:List (Key × V)}:∀ {ws:List It2} {us:List V} {w:It2} {u:V},ThR H kvs ws us→Th1 H kvs w u→ThR H kvs (ws++[w]) (us++[u])
 | [],[],_,_,_,h=>⟨h,trivial⟩
 | _ :: _,_ :: _,_,_,g,h=>⟨g.1,ThR.snoc g.2 h⟩
 | [],_ :: _,_,_,g,_=>g.elim
 | _ :: _,[],_,_,g,_=>g.elim
def zY (y z:Str):Nat:=(Builtin.Str.partsBetween y (Builtin.Str.occurrences y z 0 y.length (y.length+1)) z.length).length
def smW (w:Str):Bool:=decide (w.length≤100) && decide (zY w "," ≤ 100) && decide ((Txt.split w ",").length≤100)
def keysOf:It2→List Str
 | .inl w=>[w]
 | .inr ns=>ns
structure Ly (row cl wd:Str) (ws:List Str):Prop where
 len:row.length≤100
 ns:zY row " " ≤ 100
 sp:Txt.split row " " = cl :: wd :: ws
 wl:ws.length≤100
 sm:∀ w∈ws,smW w=true
def vJ:Sp:=fun vs H Q _=>∃ (c:Addr) (t:Int) (row cl wd:Str) (ws:List Str) (kvs:List (Key × V)),vs=[.ref c,.int t,.str row]∧H c=some (.dK kvs)∧Ly row cl wd ws∧(∀ w∈ws,∀ x∈keysOf (je w),(dU kvs (Sum.inr x:Key)).isSome=true) ∧
 ∀ (q:Addr) (us:List V) (H':Hp),Same H H'→H' q=some (.tup (.str wd :: .int t :: us))→ThR H' kvs (ws.map je) us→Q (.ref q) H'
section
variable {P:Program} {w:World} {K:PySem.W.Frag} {mg:Str→Option Value} {base:Heap}
theorem lW:aK ["_law_cast_here", "_law_t", "_law_row", "_law_words", "_law_things", "_law_word"] ["_law_cast_here", "_law_t", "_law_row"] (aC nj):=⟨rfl,rfl,rfl,by decide +kernel,rfl,by decide +kernel,by decide +kernel⟩
theorem yq (h:Has K mg "_law_deed_of" nj ["_law_cast_here", "_law_t", "_law_row"]) (m_tuple:mg "tuple" = none):Cal P w K mg base "_law_deed_of" 1 ["_law_cast_here", "_law_t", "_law_row"] vJ:=by
 refine h.mk' lW (fun vs H Q E hs=>?_) (fun f cdv A outer s H vs Q E hr hs=>?_)
 ·obtain ⟨c,t,row,cl,wd,ws,kvs,rfl,_⟩:=hs
  rfl
 obtain ⟨c,t,row,cl,wd,ws,kvs,rfl,hc,hrow,hkey,k⟩:=hs
 refine ⟨_,(ao (aH (i:=3) lW.nd rfl (Or.inl rfl) (gD PySem.F.plainAttrs_str PySem.F.slot_str_split PySem.F.type_str_split lZ (pv 2) (aj aA au)))
  (ao (aH (i:=4) lW.nd rfl (Or.inl rfl) (aX (aj (aM cC (pv 3) aB (fun _ _=>rfl)) (aj (pv 1) au))))
  (ao (fQ PassesOwn.never rfl (jq (eZ GR (pv 3) (g8 aB) iH)) (aU (i:=5) lW.nd rfl (Or.inl rfl))
   (aF (dM (bh xK aA (pv 5) (by with_unfolding_all rfl))
   (aF (cL (gD PySem.F.plainAttrs_list PySem.F.slot_list_append PySem.F.type_list_append cG (pv 4) (aj (cD bL rfl m_tuple boot_tuple (aj (cN ["_law_cast_here", "_law_t", "_law_row", "_law_words", "_law_things", "_law_word"] (aC nj) ["_law_cast_here", "_law_one"] [some 0,none] rfl rfl rfl (jq (gD PySem.F.plainAttrs_str PySem.F.slot_str_split PySem.F.type_str_split lZ (pv 5) (aj aA au))) rfl (by decide +kernel) (by decide +kernel) (by decide +kernel) (by decide +kernel) (hg:=fun cl C s H ex pn E=>(aU (i:=1) (by decide +kernel:(["_law_cast_here", "_law_one"]:List Str).Nodup) rfl (Or.inl rfl))) (ht:=fun cl C s H ex pn E=>(lO (bh oY (pv 1) aA (bZ _)))) (he:=fun cl C s H ex pn E=>(cX (dI hr) (pv 0) (pv 1) (fun _ _=>rfl)))) au)) au))))
   (aF (cL (gD PySem.F.plainAttrs_list PySem.F.slot_list_append PySem.F.type_list_append cG (pv 4) (aj (cX (dI hr) (pv 0) (pv 5) (fun _ _=>rfl)) au)))))))
  (aF (bx (cD bL rfl m_tuple boot_tuple (aj (pv 4) au))))))),?_⟩
 obtain ⟨r1,r2,r3,r4,r5⟩:=hrow
 refine ⟨_,rfl,rfl,_,_,rfl,rfl,Nat.le_trans r1 (by decide),by decide +kernel,Nat.le_trans r2 (by decide),fun lw hlw=>?_⟩
 rw [r3]
 have s1:=aq hlw (.lst ((cl :: wd :: ws).map V.str))
 have e1:(upd H lw (.lst ((cl :: wd :: ws).map V.str))) lw=some (.lst ((cl :: wd :: ws).map V.str)):=ak
 generalize upd H lw (.lst ((cl :: wd :: ws).map V.str))=H1 at s1 e1 ⊢
 refine ⟨_,rfl,lw,_,_,_,rfl,rfl,SqL.of e1,aJ (xs:=(cl :: wd :: ws).map V.str) (j:=1) rfl,_,rfl,smn 2,fun lt hlt=>?_⟩
 have s2:=aq hlt (.lst [.str wd,.int t])
 have e2:(upd H1 lt (.lst [.str wd,.int t])) lt=some (.lst [.str wd,.int t]):=ak
 have e1':=s2 _ _ e1
 have hltH:=s1.free hlt
 have ntc:lt≠c:=(aD hc hltH).symm
 generalize upd H1 lt (.lst [.str wd,.int t])=H2 at s2 e2 e1' ⊢
 refine ⟨_,rfl,_,rfl,lw,_,rfl,SqL.of e1',fun ls hls=>?_⟩
 rw [show uP ((cl :: wd :: ws).map V.str) (some 2) none=ws.map V.str from (Lh (r:=2) (by rw [List.length_map]; show 2≤ws.length+1+1; omega)).trans rfl]
 have s3:=aq hls (.lst (ws.map V.str))
 have e3:(upd H2 ls (.lst (ws.map V.str))) ls=some (.lst (ws.map V.str)):=ak
 have e2':=s3 _ _ e2
 have nls:ls≠lt:=(aD e2 hls).symm
 generalize upd H2 ls (.lst (ws.map V.str))=H3 at s3 e3 e2' ⊢
 have s03:=(s1.trans s2).trans s3
 refine ⟨ls,rfl,⟨_,SqL.of e3⟩,?_⟩
 refine lH (K:=K) (a:=ls) (xs:=ws.map V.str) (fun i σ H'=>∃ (v5:Option V) (us:List V),σ=[some (.ref c),some (.int t),some (.str row),some (.ref lw),some (.ref lt),v5]∧Same H H'∧H' ls=some (.lst (ws.map V.str))∧H' lt=some (.lst (.str wd :: .int t :: us))∧us.length≤i∧ThR H' kvs ((ws.take i).map je) us) ?_ ?_ ?_ ?_
 ·exact ⟨none,[],rfl,s03,e3,e2',Nat.le_refl _,trivial⟩
 ·rintro i σ H' _ ⟨v5,us,rfl,s4,y1,_⟩
  exact SqL.of y1
 ·rintro i x σ H4 hx ⟨v5,us,rfl,s4,y1,y2,hul,d4⟩
  have hil:i < ws.length:=by
   have:=(List.getElem?_eq_some_iff.mp hx).1
   rwa [List.length_map] at this
  have ex:x=.str ws[i]:=by
   rw [List.getElem?_map,bM hil] at hx
   exact (Option.some.inj hx).symm
  have htk:=take_one (bM hil)
  have hsm:=r5 _ (List.getElem_mem hil)
  have hk:=hkey _ (List.getElem_mem hil)
  generalize ws[i]=wo at ex htk hsm hk
  subst ex
  have hc4:=s4 _ _ hc
  unfold smW at hsm
  rw [Bool.and_eq_true,Bool.and_eq_true,decide_eq_true_eq,decide_eq_true_eq,decide_eq_true_eq] at hsm
  obtain ⟨⟨m1,m2⟩,m3⟩:=hsm
  refine gN ⟨_,rfl,_,_,rfl,rfl,_,rfl,?_⟩
  have ecm:(!(Builtin.Str.occurrences wo (Str.ofString ",") 0 wo.length 1).isEmpty)=comma wo:=rfl
  rw [ecm]
  refine fV (fun z=>?_) (fun z=>?_)
  ·have epw:je wo=.inr ((Txt.split wo ",").filter fun x=>decide (x ≠ "")):=by unfold je; rw [if_pos z]
   rw [epw] at hk
   refine ⟨_,rfl,.inl ⟨rfl,_,SqL.of y2⟩,?_⟩
   refine ⟨_,rfl,rfl,_,_,rfl,rfl,Nat.le_trans m1 (by decide),by decide +kernel,Nat.le_trans m2 (by decide),fun l5 hl5=>?_⟩
   have s5:=aq hl5 (.lst ((Txt.split wo (Str.ofString ",")).map V.str))
   have e5:(upd H4 l5 (.lst ((Txt.split wo (Str.ofString ",")).map V.str))) l5=some (.lst ((Txt.split wo (Str.ofString ",")).map V.str)):=ak
   generalize upd H4 l5 (.lst ((Txt.split wo (Str.ofString ",")).map V.str))=H5 at s5 e5 ⊢
   refine ⟨l5,rfl,⟨_,SqL.of e5⟩,fun lc hlc=>?_⟩
   have hk2:∀ x∈(Txt.split wo (Str.ofString ",")),x≠Str.ofString ""→(dU kvs (Sum.inr x:Key)).isSome=true:=fun x hx hne=>hk x (List.mem_filter.mpr ⟨hx,decide_eq_true hne⟩)
   generalize hzs:Txt.split wo (Str.ofString ",")=zs at e5 hk2
   have m3:zs.length≤100:=by rw [← hzs]; exact m3
   have hc5:=s5 _ _ hc4
   refine cY (J:=Itl K l5) (l:=lc) zs.length (fun j σ' H'=>∃ (x:Option V) (vs:List V),σ'=[some (.ref c),x]∧Same H5 H'∧H' lc=some (.lst vs)∧vs.length≤j∧VL kvs ((zs.take j).filter fun x=>decide (x≠Str.ofString "")) vs) ⟨none,[],rfl,aq hlc _,ak,Nat.le_refl _,trivial⟩ ?_ ?_
   rotate_left
   ·rintro j σ' H' hj ⟨x,vs,rfl,s6,e6,hvl,d6⟩
    have hat:(zs.map V.str)[j]?=some (.str zs[j]):=by rw [List.getElem?_map,bM hj]; rfl
    refine ⟨⟨_,_,SqL.of (s6 _ _ e5),hat⟩,?_⟩
    rintro N3 hN3 y H'' ⟨rfl,hy⟩
    have ey:y=.str zs[j]:=Option.some.inj ((hy _ (SqL.of (s6 _ _ e5))).symm.trans hat)
    have htk2:=take_one (bM hj)
    have hkz:=hk2 _ (List.getElem_mem hj)
    generalize zs[j]=zo at ey htk2 hkz
    subst ey
    refine gN ⟨_,rfl,rfl,_,rfl,?_⟩
    have eds:decide (V.str zo=V.str (Str.ofString ""))=decide (zo=Str.ofString ""):=by
     rw [decide_eq_decide]
     exact ⟨fun h=>by injection h,fun h=>by rw [h]⟩
    rw [eds]
    refine fV (fun hz=>?_) (fun hz=>?_)
    ·have hz:zo≠Str.ofString "":=by simpa using hz
     obtain ⟨vv,hvv⟩:=Option.isSome_iff_exists.mp (hkz hz)
     have hg:nG H'' c (.str zo) (some vv):=by
      rw [← hvv]
      exact nG.k (k:=(Sum.inr zo:Key)) (s6 _ _ hc5)
     refine ⟨_,rfl,_,rfl,c,_,rfl,hg,_,e6,aN (by omega),hN3 _ _ ⟨_,vs++[vv],rfl,aL s6 hlc,ak,by rw [List.length_append,List.length_singleton]; omega,?_⟩⟩
     rw [htk2,List.filter_append,List.filter_cons_of_pos (by simpa using hz)]
     exact d6.snoc hvv
    ·have hz:zo=Str.ofString "":=by simpa using hz
     refine hN3 _ _ ⟨_,vs,rfl,s6,e6,by omega,?_⟩
     rw [htk2,List.filter_append,List.filter_cons_of_neg (by simpa using hz),List.filter_nil,List.append_nil]
     exact d6
   rintro σ' H6 ⟨x,vs,rfl,s6,e6,hvl,d6⟩
   rw [List.take_length] at d6
   refine ⟨⟨_,SqL.of (s6 _ _ e5),by rw [List.length_map]; exact Nat.le_refl _⟩,lc,_,rfl,.inl ⟨SqL.of e6,fun q7 hq7=>?_⟩⟩
   have s7:=aq hq7 (.tup vs)
   have s47:=(s5.trans s6).trans s7
   have e7:=s47 _ _ y2
   refine ⟨lt,_,_,rfl,rfl,e7,aN (by show us.length+1+1≤1000; omega),?_⟩
   refine ⟨_,us++[.ref q7],rfl,aL (s4.trans s47) hltH,(aG nls).trans (s47 _ _ y1),ak,by rw [List.length_append,List.length_singleton]; omega,?_⟩
   rw [htk,List.map_append]
   refine ThR.snoc ((d4.keepT (fun b vs e=>s47 _ _ e)).keepT (pA e7)) ?_
   rw [epw]
   rw [← hzs] at d6
   exact ⟨q7,vs,rfl,pA e7 _ _ ak,d6⟩
  ·have epw:je wo=.inl wo:=by unfold je; rw [if_neg z]
   rw [epw] at hk
   obtain ⟨vv,hvv⟩:=Option.isSome_iff_exists.mp (hk wo (.head _))
   have hg:nG H4 c (.str wo) (some vv):=by
    rw [← hvv]
    exact nG.k (k:=(Sum.inr wo:Key)) hc4
   refine ⟨_,rfl,.inl ⟨rfl,_,SqL.of y2⟩,_,rfl,_,rfl,c,_,rfl,hg,lt,_,_,rfl,rfl,y2,aN (by show us.length+1+1≤1000; omega),?_⟩
   refine ⟨_,us++[vv],rfl,aL s4 hltH,(aG nls).trans y1,ak,by rw [List.length_append,List.length_singleton]; omega,?_⟩
   rw [htk,List.map_append]
   refine ThR.snoc (d4.keepT (pA y2)) ?_
   rw [epw]
   exact hvv
 ·rintro σ H4 ⟨v5,us,rfl,s4,y1,y2,hul,d4⟩
  rw [List.length_map,List.take_length] at d4
  refine ⟨_,rfl,lt,_,rfl,.inl ⟨SqL.of y2,fun q hq=>?_⟩⟩
  have s5:=aq hq (.tup (.str wd :: .int t :: us))
  exact k q us _ (s4.trans s5) ak (d4.keepT fun b vs e=>s5 _ _ e)
end
def fP:List Str:=[Str.ofString "NoPart put side gone here no",Str.ofString "NoPart put side gone none no",Str.ofString "NoPlace put side there one no",Str.ofString "NoPlace put side there gone no",Str.ofString "Twice put side no there no",Str.ofString "Twice put side here here no",Str.ofString "Twice put side lone far no",Str.ofString "NoPlace put side far lone no",Str.ofString "NoPart move gone here",Str.ofString "NoPart move gone gone",Str.ofString "NoPart move here gone",Str.ofString "NoPart move gone no",Str.ofString "NoPlace move here there",Str.ofString "NoPlace move here here",Str.ofString "NoPlace move one far",Str.ofString "NoPart part gone 0 here",Str.ofString "NoPart part gone 1 none",Str.ofString "Twice part here 0 one",Str.ofString "Twice part here 1 here",Str.ofString "Twice part one size there",Str.ofString "Twice part here more far",Str.ofString "NoPlace part here 0 gone",Str.ofString "NoPlace part here size gone",Str.ofString "NoPlace part here more gone",Str.ofString "NoPart take gone",Str.ofString "NoPart change gone no",Str.ofString "NoPart word gone 0 w",Str.ofString "NoPlace word other 400 w",Str.ofString "NoPart join gone gone",Str.ofString "NoPart join gone here",Str.ofString "NoPart join one gone",Str.ofString "NoPlace join here here",Str.ofString "NoPlace join here there",Str.ofString "NoPlace join here far",Str.ofString "NoPlace join one far",Str.ofString "NoPlace join lone there",Str.ofString "NoPlace join one one",Str.ofString "NoPlace join lone lone",Str.ofString "Apart join here one",Str.ofString "Apart join one here",Str.ofString "Apart join here lone",Str.ofString "Apart join lone other",Str.ofString "Apart join one two",Str.ofString "Apart join one lone",Str.ofString "Apart join lone two",Str.ofString "NoPart loose gone",Str.ofString "NoPart step gone",Str.ofString "NoPart alone gone",Str.ofString "NoPart lack gone",Str.ofString "Apart loose here",Str.ofString "Apart step here",Str.ofString "Apart loose lone",Str.ofString "Apart step lone",Str.ofString "Apart lack here",Str.ofString "Apart lack one",Str.ofString "Linked alone one",Str.ofString "Linked alone lone",Str.ofString "Linked alone far"]
def Ef:Sp:=fun vs H Q _=>vs=[]∧∀ (l:Addr) (H':Hp),Same H H'→H l=none→H' l=some (.lst (fP.map V.str))→Q (.ref l) H'
def gH:List Str:=[Str.ofString "NoPart link gone, there,",Str.ofString "NoPart link here,gone far,",Str.ofString "NoPart link there,one gone,",Str.ofString "NoPart link lone, here,gone",Str.ofString "NoPlace link there, here,",Str.ofString "NoPlace link one,there far,",Str.ofString "NoPlace link here, one,",Str.ofString "NoPlace link lone, there,here",Str.ofString "NoPlace link here, there,other",Str.ofString "Linked link one, there,",Str.ofString "Linked link here, far,",Str.ofString "Linked link lone, there,",Str.ofString "Linked link here,one there,far",Str.ofString "Linked link here,other,two there,beyond"]
def xG:Sp:=fun vs H Q _=>vs=[]∧∀ (l:Addr) (H':Hp),Same H H'→H l=none→H' l=some (.lst (gH.map V.str))→Q (.ref l) H'
section
variable {P:Program} {w:World} {K:PySem.W.Frag} {mg:Str→Option Value} {base:Heap}
theorem dF:aK ["_law_rows_here"] [] (aC Ci):=⟨rfl,rfl,rfl,by decide +kernel,rfl,by decide +kernel,by decide +kernel⟩
theorem Ja (h:Has K mg "_law_rows" Ci [])  : Cal P w K mg base "_law_rows" 1 [] Ef:=by
 refine h.mk' dF (fun vs H Q E hs=>?_) (fun f cdv A outer s H vs Q E hr hs=>?_)
 ·obtain ⟨rfl,_⟩:=hs
  rfl
 obtain ⟨rfl,k⟩:=hs
 refine ⟨_,(ao (aH (i:=0) dF.nd rfl (Or.inl rfl) (aX (aj aA (aj aA (aj aA au)))))
  (ao (cZ (i:=0) dF.nd rfl (Or.inl rfl) (aX (aj aA (aj aA (aj aA au)))) cI)
  (ao (cZ (i:=0) dF.nd rfl (Or.inl rfl) (aX (aj aA (aj aA (aj aA au)))) cI)
  (ao (cZ (i:=0) dF.nd rfl (Or.inl rfl) (aX (aj aA (aj aA (aj aA (aj aA au))))) cI)
  (ao (cZ (i:=0) dF.nd rfl (Or.inl rfl) (aX (aj aA (aj aA (aj aA au)))) cI)
  (ao (cZ (i:=0) dF.nd rfl (Or.inl rfl) (aX (aj aA (aj aA (aj aA au)))) cI)
  (ao (cZ (i:=0) dF.nd rfl (Or.inl rfl) (aX (aj aA (aj aA au))) cI)
  (ao (cZ (i:=0) dF.nd rfl (Or.inl rfl) (aX (aj aA (aj aA (aj aA au)))) cI)
  (ao (cZ (i:=0) dF.nd rfl (Or.inl rfl) (aX (aj aA (aj aA (aj aA (aj aA au))))) cI)
  (ao (cZ (i:=0) dF.nd rfl (Or.inl rfl) (aX (aj aA (aj aA (aj aA (aj aA au))))) cI)
  (ao (cZ (i:=0) dF.nd rfl (Or.inl rfl) (aX (aj aA (aj aA (aj aA (aj aA au))))) cI)
  (ao (cZ (i:=0) dF.nd rfl (Or.inl rfl) (aX (aj aA (aj aA (aj aA (aj aA au))))) cI)
  (ao (cZ (i:=0) dF.nd rfl (Or.inl rfl) (aX (aj aA (aj aA (aj aA (aj aA au))))) cI)
  (ao (cZ (i:=0) dF.nd rfl (Or.inl rfl) (aX (aj aA (aj aA (aj aA (aj aA au))))) cI)
  (ao (cZ (i:=0) dF.nd rfl (Or.inl rfl) (aX (aj aA au)) cI)
  (ao (cZ (i:=0) dF.nd rfl (Or.inl rfl) (aX (aj aA (aj aA (aj aA (aj aA (aj aA au)))))) cI)
  (aF (bx (aV mL (pv 0) (aX (aj aA (aj aA (aj aA (aj aA au)))))))))))))))))))))))),?_⟩
 refine jf (fun σ H'=>∃ l:Addr,σ=[some (.ref l)]∧H l=none∧Same H H'∧H' l=some (.lst ((fP.take 3).map V.str))) (fun N hN=>?_) ?_
 ·exact ⟨smn 3,fun p hp=>hN _ _ ⟨p,rfl,hp,aq hp _,ak⟩⟩
 rintro σ H1 ⟨l,rfl,hl,s1,e1⟩
 refine jf (fun σ H'=>σ=[some (.ref l)]∧Same H H'∧H' l=some (.lst ((fP.take 6).map V.str))) (fun N hN=>?_) ?_
 ·exact ⟨_,rfl,smn 3,fun p hp=>⟨l,p,_,_,rfl,rfl,aq hp _ _ _ e1,ak,small (by show 6≤1000; decide),hN _ _ ⟨rfl,aL (s1.trans (aq hp _)) hl,ak⟩⟩⟩
 clear s1 e1
 rintro σ H1 ⟨rfl,s1,e1⟩
 refine jf (fun σ H'=>σ=[some (.ref l)]∧Same H H'∧H' l=some (.lst ((fP.take 9).map V.str))) (fun N hN=>?_) ?_
 ·exact ⟨_,rfl,smn 3,fun p hp=>⟨l,p,_,_,rfl,rfl,aq hp _ _ _ e1,ak,small (by show 9≤1000; decide),hN _ _ ⟨rfl,aL (s1.trans (aq hp _)) hl,ak⟩⟩⟩
 clear s1 e1
 rintro σ H1 ⟨rfl,s1,e1⟩
 refine jf (fun σ H'=>σ=[some (.ref l)]∧Same H H'∧H' l=some (.lst ((fP.take 13).map V.str))) (fun N hN=>?_) ?_
 ·exact ⟨_,rfl,smn 4,fun p hp=>⟨l,p,_,_,rfl,rfl,aq hp _ _ _ e1,ak,small (by show 13≤1000; decide),hN _ _ ⟨rfl,aL (s1.trans (aq hp _)) hl,ak⟩⟩⟩
 clear s1 e1
 rintro σ H1 ⟨rfl,s1,e1⟩
 refine jf (fun σ H'=>σ=[some (.ref l)]∧Same H H'∧H' l=some (.lst ((fP.take 16).map V.str))) (fun N hN=>?_) ?_
 ·exact ⟨_,rfl,smn 3,fun p hp=>⟨l,p,_,_,rfl,rfl,aq hp _ _ _ e1,ak,small (by show 16≤1000; decide),hN _ _ ⟨rfl,aL (s1.trans (aq hp _)) hl,ak⟩⟩⟩
 clear s1 e1
 rintro σ H1 ⟨rfl,s1,e1⟩
 refine jf (fun σ H'=>σ=[some (.ref l)]∧Same H H'∧H' l=some (.lst ((fP.take 19).map V.str))) (fun N hN=>?_) ?_
 ·exact ⟨_,rfl,smn 3,fun p hp=>⟨l,p,_,_,rfl,rfl,aq hp _ _ _ e1,ak,small (by show 19≤1000; decide),hN _ _ ⟨rfl,aL (s1.trans (aq hp _)) hl,ak⟩⟩⟩
 clear s1 e1
 rintro σ H1 ⟨rfl,s1,e1⟩
 refine jf (fun σ H'=>σ=[some (.ref l)]∧Same H H'∧H' l=some (.lst ((fP.take 21).map V.str))) (fun N hN=>?_) ?_
 ·exact ⟨_,rfl,smn 2,fun p hp=>⟨l,p,_,_,rfl,rfl,aq hp _ _ _ e1,ak,small (by show 21≤1000; decide),hN _ _ ⟨rfl,aL (s1.trans (aq hp _)) hl,ak⟩⟩⟩
 clear s1 e1
 rintro σ H1 ⟨rfl,s1,e1⟩
 refine jf (fun σ H'=>σ=[some (.ref l)]∧Same H H'∧H' l=some (.lst ((fP.take 24).map V.str))) (fun N hN=>?_) ?_
 ·exact ⟨_,rfl,smn 3,fun p hp=>⟨l,p,_,_,rfl,rfl,aq hp _ _ _ e1,ak,small (by show 24≤1000; decide),hN _ _ ⟨rfl,aL (s1.trans (aq hp _)) hl,ak⟩⟩⟩
 clear s1 e1
 rintro σ H1 ⟨rfl,s1,e1⟩
 refine jf (fun σ H'=>σ=[some (.ref l)]∧Same H H'∧H' l=some (.lst ((fP.take 28).map V.str))) (fun N hN=>?_) ?_
 ·exact ⟨_,rfl,smn 4,fun p hp=>⟨l,p,_,_,rfl,rfl,aq hp _ _ _ e1,ak,small (by show 28≤1000; decide),hN _ _ ⟨rfl,aL (s1.trans (aq hp _)) hl,ak⟩⟩⟩
 clear s1 e1
 rintro σ H1 ⟨rfl,s1,e1⟩
 refine jf (fun σ H'=>σ=[some (.ref l)]∧Same H H'∧H' l=some (.lst ((fP.take 32).map V.str))) (fun N hN=>?_) ?_
 ·exact ⟨_,rfl,smn 4,fun p hp=>⟨l,p,_,_,rfl,rfl,aq hp _ _ _ e1,ak,small (by show 32≤1000; decide),hN _ _ ⟨rfl,aL (s1.trans (aq hp _)) hl,ak⟩⟩⟩
 clear s1 e1
 rintro σ H1 ⟨rfl,s1,e1⟩
 refine jf (fun σ H'=>σ=[some (.ref l)]∧Same H H'∧H' l=some (.lst ((fP.take 36).map V.str))) (fun N hN=>?_) ?_
 ·exact ⟨_,rfl,smn 4,fun p hp=>⟨l,p,_,_,rfl,rfl,aq hp _ _ _ e1,ak,small (by show 36≤1000; decide),hN _ _ ⟨rfl,aL (s1.trans (aq hp _)) hl,ak⟩⟩⟩
 clear s1 e1
 rintro σ H1 ⟨rfl,s1,e1⟩
 refine jf (fun σ H'=>σ=[some (.ref l)]∧Same H H'∧H' l=some (.lst ((fP.take 40).map V.str))) (fun N hN=>?_) ?_
 ·exact ⟨_,rfl,smn 4,fun p hp=>⟨l,p,_,_,rfl,rfl,aq hp _ _ _ e1,ak,small (by show 40≤1000; decide),hN _ _ ⟨rfl,aL (s1.trans (aq hp _)) hl,ak⟩⟩⟩
 clear s1 e1
 rintro σ H1 ⟨rfl,s1,e1⟩
 refine jf (fun σ H'=>σ=[some (.ref l)]∧Same H H'∧H' l=some (.lst ((fP.take 44).map V.str))) (fun N hN=>?_) ?_
 ·exact ⟨_,rfl,smn 4,fun p hp=>⟨l,p,_,_,rfl,rfl,aq hp _ _ _ e1,ak,small (by show 44≤1000; decide),hN _ _ ⟨rfl,aL (s1.trans (aq hp _)) hl,ak⟩⟩⟩
 clear s1 e1
 rintro σ H1 ⟨rfl,s1,e1⟩
 refine jf (fun σ H'=>σ=[some (.ref l)]∧Same H H'∧H' l=some (.lst ((fP.take 48).map V.str))) (fun N hN=>?_) ?_
 ·exact ⟨_,rfl,smn 4,fun p hp=>⟨l,p,_,_,rfl,rfl,aq hp _ _ _ e1,ak,small (by show 48≤1000; decide),hN _ _ ⟨rfl,aL (s1.trans (aq hp _)) hl,ak⟩⟩⟩
 clear s1 e1
 rintro σ H1 ⟨rfl,s1,e1⟩
 refine jf (fun σ H'=>σ=[some (.ref l)]∧Same H H'∧H' l=some (.lst ((fP.take 49).map V.str))) (fun N hN=>?_) ?_
 ·exact ⟨_,rfl,smn 1,fun p hp=>⟨l,p,_,_,rfl,rfl,aq hp _ _ _ e1,ak,small (by show 49≤1000; decide),hN _ _ ⟨rfl,aL (s1.trans (aq hp _)) hl,ak⟩⟩⟩
 clear s1 e1
 rintro σ H1 ⟨rfl,s1,e1⟩
 refine jf (fun σ H'=>σ=[some (.ref l)]∧Same H H'∧H' l=some (.lst ((fP.take 54).map V.str))) (fun N hN=>?_) ?_
 ·exact ⟨_,rfl,smn 5,fun p hp=>⟨l,p,_,_,rfl,rfl,aq hp _ _ _ e1,ak,small (by show 54≤1000; decide),hN _ _ ⟨rfl,aL (s1.trans (aq hp _)) hl,ak⟩⟩⟩
 clear s1 e1
 rintro σ H1 ⟨rfl,s1,e1⟩
 refine ⟨_,rfl,smn 4,fun p hp=>⟨l,p,_,_,rfl,rfl,aq hp _ _ _ e1,ak,small (by show 58≤1000; decide),fun r hr=>?_⟩⟩
 have s3:=s1.trans (aq hp (.lst [V.str (Str.ofString "Apart lack one"),V.str (Str.ofString "Linked alone one"),V.str (Str.ofString "Linked alone lone"),V.str (Str.ofString "Linked alone far")]))
 exact k r _ (s3.trans (aq hr _)) (s3.free hr) ak
theorem fZ:aK ["_law_rows_here"] [] (aC jP):=⟨rfl,rfl,rfl,by decide +kernel,rfl,by decide +kernel,by decide +kernel⟩
theorem tM (h:Has K mg "_law_link_rows" jP [])  : Cal P w K mg base "_law_link_rows" 1 [] xG:=by
 refine h.mk' fZ (fun vs H Q E hs=>?_) (fun f cdv A outer s H vs Q E hr hs=>?_)
 ·obtain ⟨rfl,_⟩:=hs
  rfl
 obtain ⟨rfl,k⟩:=hs
 refine ⟨_,(ao (aH (i:=0) fZ.nd rfl (Or.inl rfl) (aX (aj aA (aj aA (aj aA au)))))
  (ao (cZ (i:=0) fZ.nd rfl (Or.inl rfl) (aX (aj aA (aj aA (aj aA au)))) cI)
  (ao (cZ (i:=0) fZ.nd rfl (Or.inl rfl) (aX (aj aA (aj aA (aj aA au)))) cI)
  (ao (cZ (i:=0) fZ.nd rfl (Or.inl rfl) (aX (aj aA (aj aA (aj aA au)))) cI)
  (aF (bx (aV mL (pv 0) (aX (aj aA (aj aA au)))))))))),?_⟩
 refine jf (fun σ H'=>∃ l:Addr,σ=[some (.ref l)]∧H l=none∧Same H H'∧H' l=some (.lst ((gH.take 3).map V.str))) (fun N hN=>?_) ?_
 ·exact ⟨smn 3,fun p hp=>hN _ _ ⟨p,rfl,hp,aq hp _,ak⟩⟩
 rintro σ H1 ⟨l,rfl,hl,s1,e1⟩
 refine jf (fun σ H'=>σ=[some (.ref l)]∧Same H H'∧H' l=some (.lst ((gH.take 6).map V.str))) (fun N hN=>?_) ?_
 ·exact ⟨_,rfl,smn 3,fun p hp=>⟨l,p,_,_,rfl,rfl,aq hp _ _ _ e1,ak,small (by show 6≤1000; decide),hN _ _ ⟨rfl,aL (s1.trans (aq hp _)) hl,ak⟩⟩⟩
 clear s1 e1
 rintro σ H1 ⟨rfl,s1,e1⟩
 refine jf (fun σ H'=>σ=[some (.ref l)]∧Same H H'∧H' l=some (.lst ((gH.take 9).map V.str))) (fun N hN=>?_) ?_
 ·exact ⟨_,rfl,smn 3,fun p hp=>⟨l,p,_,_,rfl,rfl,aq hp _ _ _ e1,ak,small (by show 9≤1000; decide),hN _ _ ⟨rfl,aL (s1.trans (aq hp _)) hl,ak⟩⟩⟩
 clear s1 e1
 rintro σ H1 ⟨rfl,s1,e1⟩
 refine jf (fun σ H'=>σ=[some (.ref l)]∧Same H H'∧H' l=some (.lst ((gH.take 12).map V.str))) (fun N hN=>?_) ?_
 ·exact ⟨_,rfl,smn 3,fun p hp=>⟨l,p,_,_,rfl,rfl,aq hp _ _ _ e1,ak,small (by show 12≤1000; decide),hN _ _ ⟨rfl,aL (s1.trans (aq hp _)) hl,ak⟩⟩⟩
 clear s1 e1
 rintro σ H1 ⟨rfl,s1,e1⟩
 refine ⟨_,rfl,smn 2,fun p hp=>⟨l,p,_,_,rfl,rfl,aq hp _ _ _ e1,ak,small (by show 14≤1000; decide),fun r hr=>?_⟩⟩
 have s3:=s1.trans (aq hp (.lst [V.str (Str.ofString "Linked link here,one there,far"),V.str (Str.ofString "Linked link here,other,two there,beyond")]))
 exact k r _ (s3.trans (aq hr _)) (s3.free hr) ak
end
inductive Ad
 | put (b x:Nat)
 | take (x:Nat)
 | part (x i y:Nat)
 | join (x y:Nat)
 | move (x b:Nat)
 | change (x tx:Nat)
 | word (x i:Nat)
 | link (xs ys:List Nat)
 | loose (x:Nat)
 | step (x:Nat)
 | alone (x:Nat)
 | lack (x:Nat)
def nmW:Nat→Str
 | 0=>Str.ofString "here"
 | 1=>Str.ofString "other"
 | 2=>Str.ofString "there"
 | 3=>Str.ofString "beyond"
 | 4=>Str.ofString "one"
 | 5=>Str.ofString "two"
 | 6=>Str.ofString "far"
 | 7=>Str.ofString "lone"
 | 8=>Str.ofString "gone"
 | 9=>Str.ofString "none"
 | _=>Str.ofString "no"
def nmI:Nat→Str
 | 0=>Str.ofString "0"
 | 1=>Str.ofString "1"
 | 2=>Str.ofString "400"
 | 3=>Str.ofString "size"
 | _=>Str.ofString "more"
def Ad.wd:Ad→Str
 | .put ..=>Str.ofString "put"
 | .take ..=>Str.ofString "take"
 | .part ..=>Str.ofString "part"
 | .join ..=>Str.ofString "join"
 | .move ..=>Str.ofString "move"
 | .change ..=>Str.ofString "change"
 | .word ..=>Str.ofString "word"
 | .link ..=>Str.ofString "link"
 | .loose ..=>Str.ofString "loose"
 | .step ..=>Str.ofString "step"
 | .alone ..=>Str.ofString "alone"
 | .lack ..=>Str.ofString "lack"
def Ad.items:Ad→List It2
 | .put b x=>[.inl (Str.ofString "side"),.inl (nmW b),.inl (nmW x),.inl (nmW 10)]
 | .take x=>[.inl (nmW x)]
 | .part x i y=>[.inl (nmW x),.inl (nmI i),.inl (nmW y)]
 | .join x y=>[.inl (nmW x),.inl (nmW y)]
 | .move x y=>[.inl (nmW x),.inl (nmW y)]
 | .change x y=>[.inl (nmW x),.inl (nmW y)]
 | .word x i=>[.inl (nmW x),.inl (nmI i),.inl (Str.ofString "w")]
 | .link xs ys=>[.inr (xs.map nmW),.inr (ys.map nmW)]
 | .loose x=>[.inl (nmW x)]
 | .step x=>[.inl (nmW x)]
 | .alone x=>[.inl (nmW x)]
 | .lack x=>[.inl (nmW x)]
def sdW (w:Nat):Nat:=if w=2∨w=3∨w=6 then 1 else 0
def lkW (w:Nat):Nat:=if w=4 then 1 else if w=5 then 2 else if w=6 then 3 else 0
def Ii (w:Nat):Bool:=lkW w == 0 && w != 7
def plW (s b:Nat):Option Nat:=if b=10 then none else if b≤7 then (if sdW b=s then none else some 1) else some 0
def Ad.ref:Ad→Option Nat
 | .put b x=>(plW 0 b).or (if x≤7 then some 2 else none)
 | .take x=>if x≤7 then none else some 0
 | .part x i y=>if x≤7 then (if y≤7 then some 2 else if i=0∨(x=0∧(i=3∨i=4)) then some 1 else none) else some 0
 | .join x y=>if x≤7∧y≤7 then (if sdW x≠sdW y∨x=y then some 1 else if (lkW x≠lkW y∧lkW x≠3∧lkW y≠3)∨¬ (x=7↔y=7) then some 4 else none) else some 0
 | .move x b=>if x≤7 then (plW (sdW x) b).or (if b=x then some 1 else none) else some 0
 | .change x _=>if x≤7 then none else some 0
 | .word x i=>if x≤7 then (if i=2 then some 1 else none) else some 0
 | .link xs ys=>if (xs++ys).all (decide <| · ≤ 7) then (if xs.any (sdW · != 0) || ys.any (sdW · != 1) then some 1 else if (xs++ys).all Ii then none else some 3) else some 0
 | .loose x=>if x≤7 then (if lkW x≠0 then none else some 4) else some 0
 | .step x=>if x≤7 then (if lkW x≠0 then none else some 4) else some 0
 | .alone x=>if x≤7 then (if Ii x then none else some 3) else some 0
 | .lack x=>if x≤7 then (if x=7 then none else some 4) else some 0
def Ad.ok:Ad→Bool
 | .put b x=>decide (b≤10) && decide (x≤9)
 | .take x=>decide (x≤9)
 | .part x i y=>decide (x≤9) && decide (i≤4) && decide (y≤9)
 | .join x y=>decide (x≤9) && decide (y≤9)
 | .move x b=>decide (x≤9) && decide (b≤10)
 | .change x y=>decide (x≤9) && decide (y≤10)
 | .word x i=>decide (x≤9) && decide (i≤4)
 | .link xs ys=>(xs++ys).all (fun x=>decide (x≤9)) && decide (xs.length≤100) && decide (ys.length≤100)
 | .loose x=>decide (x≤9)
 | .step x=>decide (x≤9)
 | .alone x=>decide (x≤9)
 | .lack x=>decide (x≤9)
def Ad.isL:Ad→Bool
 | .link ..=>true
 | _=>false
def Gr (n:Nat) (row:Str) (e:Nat) (a:Ad):Bool:=match Txt.split row " " with
 | cl :: wd :: ws=>decide (row.length≤100) && decide (zY row " " ≤ 100) && decide (ws.length≤100) && ws.all smW && decide (cl=CG e) && decide (wd=a.wd) && decide (ws.map je=a.items) && decide (a.ref=some e) && decide (e≤4) && a.ok && (!a.isL || decide (n=0))
 | _=>false
def ROWS:List (Str × Nat × Ad):=[(Str.ofString "NoPart put side gone here no",0,.put 8 0),(Str.ofString "NoPart put side gone none no",0,.put 8 9),(Str.ofString "NoPlace put side there one no",1,.put 2 4),(Str.ofString "NoPlace put side there gone no",1,.put 2 8),(Str.ofString "Twice put side no there no",2,.put 10 2),(Str.ofString "Twice put side here here no",2,.put 0 0),(Str.ofString "Twice put side lone far no",2,.put 7 6),(Str.ofString "NoPlace put side far lone no",1,.put 6 7),(Str.ofString "NoPart move gone here",0,.move 8 0),(Str.ofString "NoPart move gone gone",0,.move 8 8),(Str.ofString "NoPart move here gone",0,.move 0 8),(Str.ofString "NoPart move gone no",0,.move 8 10),(Str.ofString "NoPlace move here there",1,.move 0 2),(Str.ofString "NoPlace move here here",1,.move 0 0),(Str.ofString "NoPlace move one far",1,.move 4 6),(Str.ofString "NoPart part gone 0 here",0,.part 8 0 0),(Str.ofString "NoPart part gone 1 none",0,.part 8 1 9),(Str.ofString "Twice part here 0 one",2,.part 0 0 4),(Str.ofString "Twice part here 1 here",2,.part 0 1 0),(Str.ofString "Twice part one size there",2,.part 4 3 2),(Str.ofString "Twice part here more far",2,.part 0 4 6),(Str.ofString "NoPlace part here 0 gone",1,.part 0 0 8),(Str.ofString "NoPlace part here size gone",1,.part 0 3 8),(Str.ofString "NoPlace part here more gone",1,.part 0 4 8),(Str.ofString "NoPart take gone",0,.take 8),(Str.ofString "NoPart change gone no",0,.change 8 10),(Str.ofString "NoPart word gone 0 w",0,.word 8 0),(Str.ofString "NoPlace word other 400 w",1,.word 1 2),(Str.ofString "NoPart join gone gone",0,.join 8 8),(Str.ofString "NoPart join gone here",0,.join 8 0),(Str.ofString "NoPart join one gone",0,.join 4 8),(Str.ofString "NoPlace join here here",1,.join 0 0),(Str.ofString "NoPlace join here there",1,.join 0 2),(Str.ofString "NoPlace join here far",1,.join 0 6),(Str.ofString "NoPlace join one far",1,.join 4 6),(Str.ofString "NoPlace join lone there",1,.join 7 2),(Str.ofString "NoPlace join one one",1,.join 4 4),(Str.ofString "NoPlace join lone lone",1,.join 7 7),(Str.ofString "Apart join here one",4,.join 0 4),(Str.ofString "Apart join one here",4,.join 4 0),(Str.ofString "Apart join here lone",4,.join 0 7),(Str.ofString "Apart join lone other",4,.join 7 1),(Str.ofString "Apart join one two",4,.join 4 5),(Str.ofString "Apart join one lone",4,.join 4 7),(Str.ofString "Apart join lone two",4,.join 7 5),(Str.ofString "NoPart loose gone",0,.loose 8),(Str.ofString "NoPart step gone",0,.step 8),(Str.ofString "NoPart alone gone",0,.alone 8),(Str.ofString "NoPart lack gone",0,.lack 8),(Str.ofString "Apart loose here",4,.loose 0),(Str.ofString "Apart step here",4,.step 0),(Str.ofString "Apart loose lone",4,.loose 7),(Str.ofString "Apart step lone",4,.step 7),(Str.ofString "Apart lack here",4,.lack 0),(Str.ofString "Apart lack one",4,.lack 4),(Str.ofString "Linked alone one",3,.alone 4),(Str.ofString "Linked alone lone",3,.alone 7),(Str.ofString "Linked alone far",3,.alone 6)]
def Hr:List (Str × Nat × Ad):=[(Str.ofString "NoPart link gone, there,",0,.link [8] [2]),(Str.ofString "NoPart link here,gone far,",0,.link [0,8] [6]),(Str.ofString "NoPart link there,one gone,",0,.link [2,4] [8]),(Str.ofString "NoPart link lone, here,gone",0,.link [7] [0,8]),(Str.ofString "NoPlace link there, here,",1,.link [2] [0]),(Str.ofString "NoPlace link one,there far,",1,.link [4,2] [6]),(Str.ofString "NoPlace link here, one,",1,.link [0] [4]),(Str.ofString "NoPlace link lone, there,here",1,.link [7] [2,0]),(Str.ofString "NoPlace link here, there,other",1,.link [0] [2,1]),(Str.ofString "Linked link one, there,",3,.link [4] [2]),(Str.ofString "Linked link here, far,",3,.link [0] [6]),(Str.ofString "Linked link lone, there,",3,.link [7] [2]),(Str.ofString "Linked link here,one there,far",3,.link [0,4] [2,6]),(Str.ofString "Linked link here,other,two there,beyond",3,.link [0,1,5] [2,3])]
theorem Gm:fP=ROWS.map (·.1):=rfl
theorem Cy:gH=Hr.map (·.1):=rfl
theorem Ho:∀ n,ROWS.all (fun r=>Gr n r.1 r.2.1 r.2.2)=true:=fun n=>by
 have h:ROWS.all (fun r=>Gr 0 r.1 r.2.1 r.2.2 && !r.2.2.isL)=true:=by decide +kernel
 rw [List.all_eq_true] at h ⊢
 intro r hr
 have:=h r hr
 rw [Bool.and_eq_true] at this
 obtain ⟨h1,h2⟩:=this
 unfold Gr at h1 ⊢
 split
 ·rename_i e
  rw [e] at h1
  simp only [Bool.and_eq_true] at h1 ⊢
  exact ⟨h1.1,by rw [h2]; rfl⟩
 ·rename_i e
  split at h1
  ·rename_i e2; exact absurd e2 (e _ _ _)
  ·cases h1
theorem Ck:Hr.all (fun r=>Gr 0 r.1 r.2.1 r.2.2)=true:=by decide +kernel
theorem HB {n:Nat} {row:Str} {e:Nat} {a:Ad} (h:Gr n row e a=true):∃ ws,Ly row (CG e) a.wd ws∧ws.map je=a.items∧a.ref=some e∧e≤4∧a.ok=true∧(a.isL=true→n=0):=by
 unfold Gr at h
 split at h
 ·rename_i cl wd ws es
  simp only [Bool.and_eq_true,decide_eq_true_eq,Bool.or_eq_true,Bool.not_eq_true'] at h
  obtain ⟨⟨⟨⟨⟨⟨⟨⟨⟨⟨h1,h2⟩,h3⟩,h4⟩,h5⟩,h6⟩,h7⟩,h8⟩,h9⟩,h10⟩,h11⟩:=h
  subst h5 h6
  exact ⟨ws,⟨h1,h2,es,h3,fun w hw=>List.all_eq_true.mp h4 w hw⟩,h7,h8,h9,h10,fun z=>h11.resolve_left (by rw [z]; decide)⟩
 ·cases h
def idI (sz:Nat):Nat→Int
 | 0=>0
 | 1=>1
 | 2=>400
 | 3=>(sz:Nat)
 | _=>(sz:Nat)+1
def Ad.dd (n:Nat) (W:Nat→List Nat) (sz:Nat):Ad→Dd
 | .put b x=>.put n (W b) (W x) (W 10)
 | .take x=>.take (W x)
 | .part x i y=>.part (W x) (idI sz i) (W y)
 | .join x y=>.join (W x) (W y)
 | .move x b=>.move (W x) (W b)
 | .change x y=>.change (W x) (W y)
 | .word x i=>.word (W x) (idI sz i) [97]
 | .link xs ys=>.link (xs.map W) (ys.map W)
 | .loose x=>.loose (W x)
 | .step x=>.step (W x)
 | .alone x=>.alone (W x)
 | .lack x=>.lack (W x)
structure At (n:Nat) (L R:List Prt) (k0 k1:Lnk) (al:Nms) (W:Nat→List Nat) (sz:Nat):Prop where
 n1:n≤1
 p:∀ w,w≤7→isP L R (W w)=true
 g:∀ w,7 < w→w≤9→isP L R (W w)=false
 s:∀ w,w≤7→aP L (W w)=if sdW w=0 then n else 1 - n
 l0:∀ w,w≤7→lkW w=0→cu L [k0,k1] (W w)=none
 l1:∀ w,w≤7→lkW w=1→cu L [k0,k1] (W w)=some k0
 l2:∀ w,w≤7→lkW w=2→cu L [k0,k1] (W w)=some k1
 l3:∀ w,w≤7→lkW w≠0→(cu L [k0,k1] (W w)).isSome=true
 a:∀ w,w≤7→(W w∈al↔w=7)
 e:W 10=[]
 ne:∀ w,w≤9→W w≠[]
 ln:∀ w,w≤10→(W w).length≤400
 kk:eqD (bK k0) (bK k1)=false
 szE:Bj L R (W 0)=sz
 sz4:sz≤400
 wd:∀ w,w≤7→FW L R (W w)≤400
section
variable {n:Nat} {L R:List Prt} {k0 k1:Lnk} {al:Nms} {W:Nat→List Nat} {sz:Nat}
theorem Af {α:Type} {p q:α→Bool}:∀ {l:List α},(∀ x∈l,p x=q x)→l.any p=l.any q
 | [],_=>rfl
 | a :: l,h=>by rw [List.any_cons,List.any_cons,h a (.head _),Af fun x hx=>h x (.tail _ hx)]
theorem El {α:Type} {p q:α→Bool}:∀ {l:List α},(∀ x∈l,p x=q x)→l.all p=l.all q
 | [],_=>rfl
 | a :: l,h=>by rw [List.all_cons,List.all_cons,h a (.head _),El fun x hx=>h x (.tail _ hx)]
theorem Em (w:Nat):lkW w≤3:=by unfold lkW; split <;> (try split) <;> (try split) <;> omega
theorem rW (w:Nat):sdW w≤1:=by unfold sdW; split <;> omega
theorem At.isS (h:At n L R k0 k1 al W sz) {x:Nat} (hx:x≤9) (z:¬ x≤7):isP L R (W x)=false:=h.g x (by omega) hx
theorem At.side (h:At n L R k0 k1 al W sz) {x y:Nat} (hx:x≤7) (hy:y≤7):(aP L (W x)=aP L (W y))↔sdW x=sdW y:=by
 rw [h.s x hx,h.s y hy]
 have:=rW x
 have:=rW y
 have:=h.n1
 split <;> split <;> omega
theorem At.place (h:At n L R k0 k1 al W sz) {s b:Nat} (hb:b≤10) (hs:s≤1) {m:Nat} (hm:m=if s=0 then n else 1 - n):eG L R m (W b)=plW s b:=by
 unfold eG plW
 by_cases h10:b=10
 ·rw [if_pos (by rw [h10]; exact h.e),if_pos h10]
 ·rw [if_neg (h.ne b (by omega)),if_neg h10]
  by_cases h7:b≤7
  ·rw [if_pos (show (bD (L++R) (W b)).isSome=true from h.p b h7),if_pos h7,h.s b h7,hm]
   have:=rW b
   have:=h.n1
   by_cases hq:sdW b=s
   ·rw [if_pos hq,if_pos (by rw [hq])]
   ·rw [if_neg hq,if_neg]
    split <;> split <;> omega
  ·rw [if_neg (show ¬ (bD (L++R) (W b)).isSome=true from fun z=>by have:=h.isS (show b≤9 by omega) h7; unfold isP at this; rw [z] at this; cases this),if_neg h7]
theorem At.lac (h:At n L R k0 k1 al W sz) {x:Nat} (hx:x≤7):jc L [k0,k1] al (W x)=Ii x:=by
 unfold jc Ii
 congr 1
 ·by_cases z:lkW x=0
  ·rw [h.l0 x hx z,z]; rfl
  ·have:=h.l3 x hx z
   rw [show (cu L [k0,k1] (W x)).isNone=false by rw [← Option.not_isSome,this]; rfl]
   exact (beq_eq_false_iff_ne.mpr z).symm
 ·have:=h.a x hx
  by_cases z:x=7
  ·rw [decide_eq_true (this.mpr z),z]; rfl
  ·rw [decide_eq_false (fun q=>z (this.mp q))]
   exact (bne_iff_ne.mpr z).symm
theorem At.ref (h:At n L R k0 k1 al W sz) {a:Ad} {e:Nat} (hok:a.ok=true) (hl:a.isL=true→n=0) (hr:a.ref=some e):dE L R [k0,k1] al (a.dd n W sz)=some e:=by
 cases a with
 | put b x =>
  simp only [Ad.ok,Bool.and_eq_true,decide_eq_true_eq] at hok
  show wX L R n (W b) (W x)=some e
  unfold wX
  rw [h.place hok.1 (s:=0) (m:=n) (by decide) (by simp),← hr]
  show _=(plW 0 b).or _
  congr 1
  by_cases z:x≤7
  ·rw [if_pos (show (bD (L++R) (W x)).isSome=true from h.p x z),if_pos z]
  ·rw [if_neg (show ¬ (bD (L++R) (W x)).isSome=true from fun q=>by have:=h.isS hok.2 z; unfold isP at this; rw [q] at this; cases this),if_neg z]
 | take x =>
  simp only [Ad.ok,decide_eq_true_eq] at hok
  simp only [Ad.dd,dE,Ad.ref] at hr ⊢
  by_cases z:x≤7
  ·rw [if_pos z] at hr; cases hr
  ·rw [if_neg z] at hr; rw [h.isS hok z]; exact hr
 | change x y =>
  simp only [Ad.ok,Bool.and_eq_true,decide_eq_true_eq] at hok
  simp only [Ad.dd,dE,Ad.ref] at hr ⊢
  by_cases z:x≤7
  ·rw [if_pos z] at hr; cases hr
  ·rw [if_neg z] at hr; rw [h.isS hok.1 z]; exact hr
 | part x i y =>
  simp only [Ad.ok,Bool.and_eq_true,decide_eq_true_eq] at hok
  simp only [Ad.dd,dE,Ad.ref] at hr ⊢
  by_cases z:x≤7
  ·rw [if_pos z] at hr
   rw [h.p x z]
   by_cases z2:y≤7
   ·rw [if_pos z2] at hr
    rw [h.p y z2]
    exact hr
   ·rw [if_neg z2] at hr
    rw [h.isS hok.2 z2]
    by_cases z3:i=0∨(x=0∧(i=3∨i=4))
    ·rw [if_pos z3] at hr
     show (if 1≤idI sz i∧idI sz i < Bj L R (W x) then none else some 1)=some e
     rw [if_neg]
     ·exact hr
     ·rintro ⟨q1,q2⟩
      rcases z3 with rfl | ⟨rfl,rfl | rfl⟩
      ·exact absurd q1 (by show ¬ (1:Int)≤0; decide)
      ·rw [h.szE] at q2
       exact absurd q2 (by show ¬ ((sz:Nat):Int) < (sz:Nat); omega)
      ·rw [h.szE] at q2
       exact absurd q2 (by show ¬ ((sz:Nat):Int)+1 < (sz:Nat); omega)
    ·rw [if_neg z3] at hr; cases hr
  ·rw [if_neg z] at hr; rw [h.isS hok.1.1 z]; exact hr
 | word x i =>
  simp only [Ad.ok,Bool.and_eq_true,decide_eq_true_eq] at hok
  simp only [Ad.dd,dE,Ad.ref] at hr ⊢
  by_cases z:x≤7
  ·rw [if_pos z] at hr
   rw [h.p x z]
   by_cases z2:i=2
   ·rw [if_pos z2] at hr
    subst z2
    show (if (FW L R (W x):Int)≤400 then some 1 else none)=some e
    rw [if_pos (by have:=h.wd x z; omega)]
    exact hr
   ·rw [if_neg z2] at hr; cases hr
  ·rw [if_neg z] at hr; rw [h.isS hok.1 z]; exact hr
 | join x y =>
  simp only [Ad.ok,Bool.and_eq_true,decide_eq_true_eq] at hok
  show mU L R [k0,k1] al (W x) (W y)=some e
  simp only [Ad.ref] at hr
  unfold mU
  by_cases z:x≤7∧y≤7
  ·rw [if_pos z] at hr
   obtain ⟨zx,zy⟩:=z
   rw [h.p x zx,h.p y zy]
   show (if (aP L (W x) != aP L (W y) || decide (W x=W y))=true then some 1 else _)=some e
   have hs:=h.side zx zy
   by_cases z2:sdW x≠sdW y∨x=y
   ·rw [if_pos z2] at hr
    rw [if_pos]
    ·exact hr
    ·rw [Bool.or_eq_true,bne_iff_ne,decide_eq_true_eq]
     exact z2.imp (fun q w=>q (hs.mp w)) fun q=>by rw [q]
   ·rw [if_neg z2] at hr
    have q1:sdW x=sdW y:=by
     by_cases q:sdW x=sdW y
     ·exact q
     ·exact absurd (.inl q) z2
    by_cases z3:(lkW x≠lkW y∧lkW x≠3∧lkW y≠3)∨¬ (x=7↔y=7)
    ·rw [if_pos z3] at hr
     have key:neD (cu L [k0,k1] (W x)) (cu L [k0,k1] (W y))=true∨(decide (W x∈al) != decide (W y∈al))=true:=by
      rcases z3 with ⟨c1,c2,c3⟩ | c
      ·refine .inl ?_
       have lx:=Em x
       have ly:=Em y
       have hx:cu L [k0,k1] (W x)=if lkW x=0 then none else if lkW x=1 then some k0 else some k1:=by
        by_cases q:lkW x=0
        ·rw [if_pos q]; exact h.l0 x zx q
        ·rw [if_neg q]
         by_cases q':lkW x=1
         ·rw [if_pos q']; exact h.l1 x zx q'
         ·rw [if_neg q']; exact h.l2 x zx (by omega)
       have hy:cu L [k0,k1] (W y)=if lkW y=0 then none else if lkW y=1 then some k0 else some k1:=by
        by_cases q:lkW y=0
        ·rw [if_pos q]; exact h.l0 y zy q
        ·rw [if_neg q]
         by_cases q':lkW y=1
         ·rw [if_pos q']; exact h.l1 y zy q'
         ·rw [if_neg q']; exact h.l2 y zy (by omega)
       rw [hx,hy]
       have hk:=h.kk
       have hk':eqD (bK k1) (bK k0)=false:=rT fun q=>kZ hk q.symm
       generalize lkW x=u at *
       generalize lkW y=v at *
       rcases (show u=0∨u=1∨u=2 by omega) with rfl | rfl | rfl
       ·rcases (show v=1∨v=2 by omega) with rfl | rfl
        ·rfl
        ·rfl
       ·rcases (show v=0∨v=2 by omega) with rfl | rfl
        ·rfl
        ·show (!eqD (bK k0) (bK k1))=true
         rw [hk]; rfl
       ·rcases (show v=0∨v=1 by omega) with rfl | rfl
        ·rfl
        ·show (!eqD (bK k1) (bK k0))=true
         rw [hk']; rfl
      ·refine .inr ?_
       rw [bne_iff_ne]
       intro q
       rw [decide_eq_decide] at q
       exact c ⟨fun r=>(h.a y zy).mp (q.mp ((h.a x zx).mpr r)),fun r=>(h.a x zx).mp (q.mpr ((h.a y zy).mpr r))⟩
     have hne:W x≠W y:=fun q=>by
      rw [q] at key
      rcases key with key | key
      ·unfold neD at key
       split at key
       ·cases key
       ·rename_i a b e1 e2
        rw [e1] at e2
        cases e2
        rw [lY] at key
        cases key
       ·rename_i e1 e2
        cases hh:cu L [k0,k1] (W y) with
        | none=>exact e1 hh hh
        | some kk=>exact e2 kk kk hh hh
      ·simp at key
     rw [if_neg]
     ·rw [if_pos]
      ·exact hr
      ·rw [Bool.or_eq_true]; exact key
     ·rw [Bool.or_eq_true,bne_iff_ne,decide_eq_true_eq]
      exact fun q=>q.elim (fun r=>r (hs.mpr q1)) hne
    ·rw [if_neg z3] at hr; cases hr
  ·rw [if_neg z] at hr
   rw [if_neg]
   ·exact hr
   ·rw [Bool.and_eq_true]
    rintro ⟨q1,q2⟩
    refine z ⟨?_,?_⟩
    ·by_cases r:x≤7
     ·exact r
     ·rw [h.isS hok.1 r] at q1; cases q1
    ·by_cases r:y≤7
     ·exact r
     ·rw [h.isS hok.2 r] at q2; cases q2
 | move x b =>
  simp only [Ad.ok,Bool.and_eq_true,decide_eq_true_eq] at hok
  simp only [Ad.dd,dE,Ad.ref] at hr ⊢
  by_cases z:x≤7
  ·rw [if_pos z] at hr
   rw [h.p x z]
   show (eG L R (aP L (W x)) (W b)).or (if W b=W x then some 1 else none)=some e
   rw [h.place hok.2 (rW x) (h.s x z)]
   cases hp:plW (sdW x) b with
   | some q=>rw [hp] at hr; exact hr
   | none =>
    rw [hp] at hr
    by_cases z2:b=x
    ·rw [z2,if_pos rfl]
     rw [if_pos z2] at hr
     exact hr
    ·rw [if_neg z2] at hr; cases hr
  ·rw [if_neg z] at hr; rw [h.isS hok.1 z]; exact hr
 | loose x =>
  simp only [Ad.ok,decide_eq_true_eq] at hok
  simp only [Ad.dd,dE,Ad.ref] at hr ⊢
  by_cases z:x≤7
  ·rw [if_pos z] at hr
   rw [h.p x z]
   by_cases z2:lkW x=0
   ·rw [if_neg (by simpa using z2)] at hr
    rw [h.l0 x z z2]; exact hr
   ·rw [if_pos z2] at hr; cases hr
  ·rw [if_neg z] at hr; rw [h.isS hok z]; exact hr
 | step x =>
  simp only [Ad.ok,decide_eq_true_eq] at hok
  simp only [Ad.dd,dE,Ad.ref] at hr ⊢
  by_cases z:x≤7
  ·rw [if_pos z] at hr
   rw [h.p x z]
   by_cases z2:lkW x=0
   ·rw [if_neg (by simpa using z2)] at hr
    rw [h.l0 x z z2]; exact hr
   ·rw [if_pos z2] at hr; cases hr
  ·rw [if_neg z] at hr; rw [h.isS hok z]; exact hr
 | alone x =>
  simp only [Ad.ok,decide_eq_true_eq] at hok
  simp only [Ad.dd,dE,Ad.ref] at hr ⊢
  by_cases z:x≤7
  ·rw [if_pos z] at hr
   rw [h.p x z,h.lac z]
   exact hr
  ·rw [if_neg z] at hr; rw [h.isS hok z]; exact hr
 | lack x =>
  simp only [Ad.ok,decide_eq_true_eq] at hok
  simp only [Ad.dd,dE,Ad.ref] at hr ⊢
  by_cases z:x≤7
  ·rw [if_pos z] at hr
   rw [h.p x z]
   have:=h.a x z
   by_cases z2:x=7
   ·rw [if_pos z2] at hr; cases hr
   ·rw [if_neg z2] at hr
    show (if W x∈al then none else some 4)=some e
    rw [if_neg (fun q=>z2 (this.mp q))]; exact hr
  ·rw [if_neg z] at hr; rw [h.isS hok z]; exact hr
 | link xs ys =>
  have hn:=hl rfl
  subst hn
  simp only [Ad.ok,Bool.and_eq_true,decide_eq_true_eq,List.all_eq_true] at hok
  obtain ⟨⟨hok,_⟩,_⟩:=hok
  show rD L R [k0,k1] al (xs.map W) (ys.map W)=some e
  simp only [Ad.ref] at hr
  unfold rD
  rw [← List.map_append,List.all_map,List.any_map,List.any_map,List.all_map]
  by_cases z:(xs++ys).all (decide <| · ≤ 7)=true
  ·rw [if_pos z] at hr
   have z':=List.all_eq_true.mp z
   have zz:∀ x∈xs++ys,x≤7:=fun x hx=>of_decide_eq_true (z' x hx)
   rw [if_pos (show (xs++ys).all (isP L R ∘ W)=true from List.all_eq_true.mpr fun x hx=>h.p x (zz x hx))]
   have sd:∀ x∈xs++ys,aP L (W x)=sdW x:=fun x hx=>by
    rw [h.s x (zz x hx)]
    have:=rW x
    split <;> omega
   have c1:xs.any ((fun x=>aP L x != 0) ∘ W)=xs.any (sdW · != 0):=Af fun x hx=>by show (aP L (W x) != 0)=_; rw [sd x (List.mem_append_left _ hx)]
   have c2:ys.any ((fun x=>aP L x != 1) ∘ W)=ys.any (sdW · != 1):=Af fun x hx=>by show (aP L (W x) != 1)=_; rw [sd x (List.mem_append_right _ hx)]
   have c3:(xs++ys).all (jc L [k0,k1] al ∘ W)=(xs++ys).all Ii:=El fun x hx=>h.lac (zz x hx)
   rw [c1,c2,c3]
   exact hr
  ·rw [if_neg z] at hr
   rw [if_neg]
   ·exact hr
   ·intro q
    refine z (List.all_eq_true.mpr fun x hx=>decide_eq_true ?_)
    have:=List.all_eq_true.mp q x hx
    by_cases r:x≤7
    ·exact r
    ·rw [show (isP L R ∘ W) x=isP L R (W x) from rfl,h.isS (hok x hx) r] at this; cases this
end
def wN (he ot th be on tw fa lo:List Nat):Nat→List Nat
 | 0=>he
 | 1=>ot
 | 2=>th
 | 3=>be
 | 4=>on
 | 5=>tw
 | 6=>fa
 | 7=>lo
 | 8=>QG
 | 9=>QN
 | _=>[]
theorem Mt:V.str (Str.ofString "zzyyxxww")=mkT QG:=by decide +kernel
theorem Og:V.str (Str.ofString "wwxxyyzz")=mkT QN:=by decide +kernel
theorem Mp:V.str (Str.ofString "")=mkT []:=by decide +kernel
theorem a_t:V.str (Str.ofString "a")=mkT [97]:=by decide +kernel
section
variable {n:Nat} {L R:List Prt} {k0 k1:Lnk} {al:Nms} {he ot th be on tw fa lo:List Nat} {sz:Nat} {kvs:List (Key × V)}
theorem Bf (h:∀ q∈dz n he ot th be on tw fa lo sz,dU kvs (Sum.inr q.1:Key)=some q.2) {w:Nat} (hw:w≤10):dU kvs (Sum.inr (nmW w):Key)=some (mkT (wN he ot th be on tw fa lo w)):=by
 match w,hw with
 | 0,_=>exact h (Str.ofString "here",mkT he) (by unfold dz; simp)
 | 1,_=>exact h (Str.ofString "other",mkT ot) (by unfold dz; simp)
 | 2,_=>exact h (Str.ofString "there",mkT th) (by unfold dz; simp)
 | 3,_=>exact h (Str.ofString "beyond",mkT be) (by unfold dz; simp)
 | 4,_=>exact h (Str.ofString "one",mkT on) (by unfold dz; simp)
 | 5,_=>exact h (Str.ofString "two",mkT tw) (by unfold dz; simp)
 | 6,_=>exact h (Str.ofString "far",mkT fa) (by unfold dz; simp)
 | 7,_=>exact h (Str.ofString "lone",mkT lo) (by unfold dz; simp)
 | 8,_=>exact (h (Str.ofString "gone",.str (Str.ofString "zzyyxxww")) (by unfold dz dO; simp)).trans (by rw [Mt]; rfl)
 | 9,_=>exact (h (Str.ofString "none",.str (Str.ofString "wwxxyyzz")) (by unfold dz dO; simp)).trans (by rw [Og]; rfl)
 | 10,_=>exact (h (Str.ofString "no",.str (Str.ofString "")) (by unfold dz dO; simp)).trans (by rw [Mp]; rfl)
theorem EY (h:∀ q∈dz n he ot th be on tw fa lo sz,dU kvs (Sum.inr q.1:Key)=some q.2) {i:Nat} (hi:i≤4):dU kvs (Sum.inr (nmI i):Key)=some (.int (idI sz i)):=by
 match i,hi with
 | 0,_=>exact h (Str.ofString "0",.int 0) (by unfold dz dO; simp)
 | 1,_=>exact h (Str.ofString "1",.int 1) (by unfold dz dO; simp)
 | 2,_=>exact h (Str.ofString "400",.int 400) (by unfold dz dO; simp)
 | 3,_=>exact h (Str.ofString "size",.int (sz:Nat)) (by unfold dz; simp)
 | 4,_=>exact h (Str.ofString "more",.int ((sz:Nat)+1)) (by unfold dz; simp)
theorem VL.names (h:∀ q∈dz n he ot th be on tw fa lo sz,dU kvs (Sum.inr q.1:Key)=some q.2):∀ {xs:List Nat} {vs:List V},(∀ x∈xs,x≤9)→VL kvs (xs.map nmW) vs→vs=(xs.map (wN he ot th be on tw fa lo)).map mkT
 | [],[],_,_=>rfl
 | x :: xs,v :: vs,hx,g=>by
  have e:=g.1
  rw [Bf h (Nat.le_trans (hx x (.head _)) (by decide))] at e
  rw [← Option.some.inj e,VL.names h (fun y hy=>hx y (.tail _ hy)) g.2]
  rfl
 | [],_ :: _,_,g=>g.elim
 | _ :: _,[],_,g=>g.elim
theorem val_eq {k:Str} {u v:V} (h:dU kvs (Sum.inr k:Key)=some u) (g:dU kvs (Sum.inr k:Key)=some v):v=u:=Option.some.inj (g.symm.trans h)
theorem ThR.one {H:Hp} {a:It2} {us:List V} (h:ThR H kvs [a] us):∃ u,us=[u]∧Th1 H kvs a u:=by
 match us,h with
 | [u],h=>exact ⟨u,rfl,h.1⟩
 | [],h=>exact h.elim
 | _ :: _ :: _,h=>exact h.2.elim
theorem ThR.two {H:Hp} {a b:It2} {us:List V} (h:ThR H kvs [a,b] us):∃ u v,us=[u,v]∧Th1 H kvs a u∧Th1 H kvs b v:=by
 match us,h with
 | [u,v],h=>exact ⟨u,v,rfl,h.1,h.2.1⟩
 | [],h=>exact h.elim
 | [_],h=>exact h.2.elim
 | _ :: _ :: _ :: _,h=>exact h.2.2.elim
theorem ThR.three {H:Hp} {a b c:It2} {us:List V} (h:ThR H kvs [a,b,c] us):∃ u v w,us=[u,v,w]∧Th1 H kvs a u∧Th1 H kvs b v∧Th1 H kvs c w:=by
 match us,h with
 | [u,v,w],h=>exact ⟨u,v,w,rfl,h.1,h.2.1,h.2.2.1⟩
 | [],h=>exact h.elim
 | [_],h=>exact h.2.elim
 | [_,_],h=>exact h.2.2.elim
 | _ :: _ :: _ :: _ :: _,h=>exact h.2.2.2.elim
theorem ThR.four {H:Hp} {a b c d:It2} {us:List V} (h:ThR H kvs [a,b,c,d] us):∃ u v w x,us=[u,v,w,x]∧Th1 H kvs a u∧Th1 H kvs b v∧Th1 H kvs c w∧Th1 H kvs d x:=by
 match us,h with
 | [u,v,w,x],h=>exact ⟨u,v,w,x,rfl,h.1,h.2.1,h.2.2.1,h.2.2.2.1⟩
 | [],h=>exact h.elim
 | [_],h=>exact h.2.elim
 | [_,_],h=>exact h.2.2.elim
 | [_,_,_],h=>exact h.2.2.2.elim
 | _ :: _ :: _ :: _ :: _ :: _,h=>exact h.2.2.2.2.elim
theorem Gp {H:Hp} {pd:Addr} {t:Int} {a:Ad} {us:List V} (h:∀ q∈dz n he ot th be on tw fa lo sz,dU kvs (Sum.inr q.1:Key)=some q.2) (hok:a.ok=true) (hp:H pd=some (.tup (.str a.wd :: .int t :: us))) (hu:ThR H kvs a.items us):xW H pd t (a.dd n (wN he ot th be on tw fa lo) sz):=by
 have nm:∀ {w:Nat} {u:V},w≤10→Th1 H kvs (.inl (nmW w)) u→u=mkT (wN he ot th be on tw fa lo w):=fun hw g=>val_eq (Bf h hw) g
 have ni:∀ {w:Nat} {u:V},w≤4→Th1 H kvs (.inl (nmI w)) u→u=.int (idI sz w):=fun hw g=>val_eq (EY h hw) g
 cases a with
 | put b x =>
  simp only [Ad.ok,Bool.and_eq_true,decide_eq_true_eq] at hok
  obtain ⟨u0,u1,u2,u3,rfl,g0,g1,g2,g3⟩:=hu.four
  have e0:u0=.int (n:Nat):=val_eq (h (Str.ofString "side",.int (n:Nat)) (by unfold dz dO; simp)) g0
  rw [e0,nm hok.1 g1,nm (Nat.le_trans hok.2 (by decide)) g2,nm (Nat.le_refl _) g3] at hp
  exact hp
 | part x i y =>
  simp only [Ad.ok,Bool.and_eq_true,decide_eq_true_eq] at hok
  obtain ⟨u0,u1,u2,rfl,g0,g1,g2⟩:=hu.three
  rw [nm (Nat.le_trans hok.1.1 (by decide)) g0,ni hok.1.2 g1,nm (Nat.le_trans hok.2 (by decide)) g2] at hp
  exact hp
 | word x i =>
  simp only [Ad.ok,Bool.and_eq_true,decide_eq_true_eq] at hok
  obtain ⟨u0,u1,u2,rfl,g0,g1,g2⟩:=hu.three
  have e2:u2=mkT [97]:=(val_eq (h (Str.ofString "w",.str (Str.ofString "a")) (by unfold dz dO; simp)) g2).trans a_t
  rw [nm (Nat.le_trans hok.1 (by decide)) g0,ni hok.2 g1,e2] at hp
  exact hp
 | join x y =>
  simp only [Ad.ok,Bool.and_eq_true,decide_eq_true_eq] at hok
  obtain ⟨u0,u1,rfl,g0,g1⟩:=hu.two
  rw [nm (Nat.le_trans hok.1 (by decide)) g0,nm (Nat.le_trans hok.2 (by decide)) g1] at hp
  exact hp
 | move x y =>
  simp only [Ad.ok,Bool.and_eq_true,decide_eq_true_eq] at hok
  obtain ⟨u0,u1,rfl,g0,g1⟩:=hu.two
  rw [nm (Nat.le_trans hok.1 (by decide)) g0,nm hok.2 g1] at hp
  exact hp
 | change x y =>
  simp only [Ad.ok,Bool.and_eq_true,decide_eq_true_eq] at hok
  obtain ⟨u0,u1,rfl,g0,g1⟩:=hu.two
  rw [nm (Nat.le_trans hok.1 (by decide)) g0,nm hok.2 g1] at hp
  exact hp
 | link xs ys =>
  simp only [Ad.ok,Bool.and_eq_true,decide_eq_true_eq,List.all_eq_true] at hok
  obtain ⟨⟨hok,_⟩,_⟩:=hok
  obtain ⟨u0,u1,rfl,⟨p,vs,rfl,hp0,g0⟩,⟨q,ws,rfl,hq0,g1⟩⟩:=hu.two
  rw [VL.names h (fun x hx=>hok x (List.mem_append_left _ hx)) g0] at hp0
  rw [VL.names h (fun x hx=>hok x (List.mem_append_right _ hx)) g1] at hq0
  exact ⟨p,q,hp,hp0,hq0⟩
 | take x =>
  simp only [Ad.ok,decide_eq_true_eq] at hok
  obtain ⟨u0,rfl,g0⟩:=hu.one
  rw [nm (Nat.le_trans hok (by decide)) g0] at hp
  exact hp
 | loose x =>
  simp only [Ad.ok,decide_eq_true_eq] at hok
  obtain ⟨u0,rfl,g0⟩:=hu.one
  rw [nm (Nat.le_trans hok (by decide)) g0] at hp
  exact hp
 | step x =>
  simp only [Ad.ok,decide_eq_true_eq] at hok
  obtain ⟨u0,rfl,g0⟩:=hu.one
  rw [nm (Nat.le_trans hok (by decide)) g0] at hp
  exact hp
 | alone x =>
  simp only [Ad.ok,decide_eq_true_eq] at hok
  obtain ⟨u0,rfl,g0⟩:=hu.one
  rw [nm (Nat.le_trans hok (by decide)) g0] at hp
  exact hp
 | lack x =>
  simp only [Ad.ok,decide_eq_true_eq] at hok
  obtain ⟨u0,rfl,g0⟩:=hu.one
  rw [nm (Nat.le_trans hok (by decide)) g0] at hp
  exact hp
theorem Gj {a:Ad} (h:∀ q∈dz n he ot th be on tw fa lo sz,dU kvs (Sum.inr q.1:Key)=some q.2) (hok:a.ok=true):∀ it∈a.items,∀ x∈keysOf it,(dU kvs (Sum.inr x:Key)).isSome=true:=by
 have nm:∀ {w:Nat},w≤10→(dU kvs (Sum.inr (nmW w):Key)).isSome=true:=fun hw=>by rw [Bf h hw]; rfl
 have ni:∀ {w:Nat},w≤4→(dU kvs (Sum.inr (nmI w):Key)).isSome=true:=fun hw=>by rw [EY h hw]; rfl
 have ns:(dU kvs (Sum.inr (Str.ofString "side"):Key)).isSome=true:=by rw [h (Str.ofString "side",.int (n:Nat)) (by unfold dz dO; simp)]; rfl
 have nw:(dU kvs (Sum.inr (Str.ofString "w"):Key)).isSome=true:=by rw [h (Str.ofString "w",.str (Str.ofString "a")) (by unfold dz dO; simp)]; rfl
 intro it hit x hx
 cases a with
 | link xs ys =>
  simp only [Ad.ok,Bool.and_eq_true,decide_eq_true_eq,List.all_eq_true] at hok
  obtain ⟨⟨hok,_⟩,_⟩:=hok
  simp only [Ad.items,List.mem_cons,List.not_mem_nil,or_false] at hit
  rcases hit with rfl | rfl
  ·obtain ⟨y,hy,rfl⟩:=List.mem_map.mp hx
   exact nm (Nat.le_trans (hok y (List.mem_append_left _ hy)) (by decide))
  ·obtain ⟨y,hy,rfl⟩:=List.mem_map.mp hx
   exact nm (Nat.le_trans (hok y (List.mem_append_right _ hy)) (by decide))
 | put b x0 =>
  simp only [Ad.ok,Bool.and_eq_true,decide_eq_true_eq] at hok
  simp only [Ad.items,List.mem_cons,List.not_mem_nil,or_false] at hit
  rcases hit with rfl | rfl | rfl | rfl <;> (rw [List.mem_singleton.mp hx])
  ·exact ns
  ·exact nm hok.1
  ·exact nm (Nat.le_trans hok.2 (by decide))
  ·exact nm (Nat.le_refl _)
 | part x0 i y =>
  simp only [Ad.ok,Bool.and_eq_true,decide_eq_true_eq] at hok
  simp only [Ad.items,List.mem_cons,List.not_mem_nil,or_false] at hit
  rcases hit with rfl | rfl | rfl <;> (rw [List.mem_singleton.mp hx])
  ·exact nm (Nat.le_trans hok.1.1 (by decide))
  ·exact ni hok.1.2
  ·exact nm (Nat.le_trans hok.2 (by decide))
 | word x0 i =>
  simp only [Ad.ok,Bool.and_eq_true,decide_eq_true_eq] at hok
  simp only [Ad.items,List.mem_cons,List.not_mem_nil,or_false] at hit
  rcases hit with rfl | rfl | rfl <;> (rw [List.mem_singleton.mp hx])
  ·exact nm (Nat.le_trans hok.1 (by decide))
  ·exact ni hok.2
  ·exact nw
 | join x0 y =>
  simp only [Ad.ok,Bool.and_eq_true,decide_eq_true_eq] at hok
  simp only [Ad.items,List.mem_cons,List.not_mem_nil,or_false] at hit
  rcases hit with rfl | rfl <;> (rw [List.mem_singleton.mp hx])
  ·exact nm (Nat.le_trans hok.1 (by decide))
  ·exact nm (Nat.le_trans hok.2 (by decide))
 | move x0 y =>
  simp only [Ad.ok,Bool.and_eq_true,decide_eq_true_eq] at hok
  simp only [Ad.items,List.mem_cons,List.not_mem_nil,or_false] at hit
  rcases hit with rfl | rfl <;> (rw [List.mem_singleton.mp hx])
  ·exact nm (Nat.le_trans hok.1 (by decide))
  ·exact nm hok.2
 | change x0 y =>
  simp only [Ad.ok,Bool.and_eq_true,decide_eq_true_eq] at hok
  simp only [Ad.items,List.mem_cons,List.not_mem_nil,or_false] at hit
  rcases hit with rfl | rfl <;> (rw [List.mem_singleton.mp hx])
  ·exact nm (Nat.le_trans hok.1 (by decide))
  ·exact nm hok.2
 | take x0 =>
  simp only [Ad.ok,decide_eq_true_eq] at hok
  simp only [Ad.items,List.mem_cons,List.not_mem_nil,or_false] at hit
  rw [hit] at hx
  rw [List.mem_singleton.mp hx]
  exact nm (Nat.le_trans hok (by decide))
 | loose x0 =>
  simp only [Ad.ok,decide_eq_true_eq] at hok
  simp only [Ad.items,List.mem_cons,List.not_mem_nil,or_false] at hit
  rw [hit] at hx
  rw [List.mem_singleton.mp hx]
  exact nm (Nat.le_trans hok (by decide))
 | step x0 =>
  simp only [Ad.ok,decide_eq_true_eq] at hok
  simp only [Ad.items,List.mem_cons,List.not_mem_nil,or_false] at hit
  rw [hit] at hx
  rw [List.mem_singleton.mp hx]
  exact nm (Nat.le_trans hok (by decide))
 | alone x0 =>
  simp only [Ad.ok,decide_eq_true_eq] at hok
  simp only [Ad.items,List.mem_cons,List.not_mem_nil,or_false] at hit
  rw [hit] at hx
  rw [List.mem_singleton.mp hx]
  exact nm (Nat.le_trans hok (by decide))
 | lack x0 =>
  simp only [Ad.ok,decide_eq_true_eq] at hok
  simp only [Ad.items,List.mem_cons,List.not_mem_nil,or_false] at hit
  rw [hit] at hx
  rw [List.mem_singleton.mp hx]
  exact nm (Nat.le_trans hok (by decide))
end
theorem Jr {x:List Nat} (h:isNm ⟨x.toArray⟩=true):x≠[]∧x.length≤8:=by
 unfold isNm at h
 simp only [Bool.and_eq_true,decide_eq_true_eq] at h
 have e:(⟨x.toArray⟩:Str).length=x.length:=lV x
 rw [e] at h
 refine ⟨fun z=>?_,by omega⟩
 rw [z] at h
 simp at h
section
variable {n:Nat} {L R:List Prt} {k0 k1:Lnk} {al:Nms} {he ot th be on tw fa lo:List Nat} {sz:Nat}
theorem d8.side (h:d8 L R k0 k1 al) {m:Nat} (hm:m≤1) {x:List Nat} (hx:x∈(sdP m L R).map (·.1)):isP L R x=true∧aP L x=m∧x≠[]∧x.length≤400:=by
 have hin:x∈(L++R).map (·.1):=by
  obtain ⟨p,hp,rfl⟩:=List.mem_map.mp hx
  exact List.mem_map_of_mem (zp hp)
 have hnm:isNm ⟨x.toArray⟩=true:=by
  obtain ⟨p,hp,rfl⟩:=List.mem_map.mp hin
  exact (h.parts p hp).1
 obtain ⟨g1,g2⟩:=Jr hnm
 refine ⟨by unfold isP; rw [fU]; exact decide_eq_true hin,?_,g1,by omega⟩
 unfold aP
 rw [fU]
 have nd:=h.nd
 rw [List.map_append,List.nodup_append] at nd
 match m,hm with
 | 0,_=>rw [if_pos (decide_eq_true (show x∈L.map (·.1) from hx))]
 | 1,_=>rw [if_neg]; simp only [decide_eq_true_eq]; exact fun z=>nd.2.2 x z x hx rfl
theorem d8.apart (h:d8 L R k0 k1 al) {m:Nat} (hm:m≤1):(∀ x∈bA m k0,x∈(sdP m L R).map (·.1)∧x ∉ bA m k1∧x ∉ al)∧(∀ x∈bA m k1,x∈(sdP m L R).map (·.1)∧x ∉ bA m k0∧x ∉ al)∧(∀ x∈al,x ∉ bA m k0∧x ∉ bA m k1):=by
 obtain ⟨a0,r0,p0,a1,r1,p1,pa⟩:=h.nd0
 have nd:=h.nd
 rw [List.map_append] at nd
 have nd2:((k0.1++k1.1++a0 :: r0)++(k0.2.1++k1.2.1++a1 :: r1)).Nodup:=((p0.append p1).nodup_iff).mp nd
 have hal:∀ x,x∈al↔x=a0∨x=a1:=fun x=>by rw [pa.mem_iff]; simp
 simp only [List.nodup_append,List.nodup_cons,List.mem_append,List.mem_cons] at nd2
 match m,hm with
 | 0,_ =>
  refine ⟨fun x hx=>⟨p0.mem_iff.mpr ?_,?_,?_⟩,fun x hx=>⟨p0.mem_iff.mpr ?_,?_,?_⟩,fun x hx=>?_⟩
  ·have hx:x∈k0.1:=hx
   simp [hx]
  ·have hx:x∈k0.1:=hx
   show x ∉ k1.1
   grind
  ·have hx:x∈k0.1:=hx
   rw [hal]
   grind
  ·have hx:x∈k1.1:=hx
   simp [hx]
  ·have hx:x∈k1.1:=hx
   show x ∉ k0.1
   grind
  ·have hx:x∈k1.1:=hx
   rw [hal]
   grind
  ·rw [hal] at hx
   show x ∉ k0.1∧x ∉ k1.1
   grind
 | 1,_ =>
  refine ⟨fun x hx=>⟨p1.mem_iff.mpr ?_,?_,?_⟩,fun x hx=>⟨p1.mem_iff.mpr ?_,?_,?_⟩,fun x hx=>?_⟩
  ·have hx:x∈k0.2.1:=hx
   simp [hx]
  ·have hx:x∈k0.2.1:=hx
   show x ∉ k1.2.1
   grind
  ·have hx:x∈k0.2.1:=hx
   rw [hal]
   grind
  ·have hx:x∈k1.2.1:=hx
   simp [hx]
  ·have hx:x∈k1.2.1:=hx
   show x ∉ k0.2.1
   grind
  ·have hx:x∈k1.2.1:=hx
   rw [hal]
   grind
  ·rw [hal] at hx
   show x ∉ k0.2.1∧x ∉ k1.2.1
   grind
theorem qw {m:Nat} {x:List Nat} (hs:aP L x=m):cu L [k0,k1] x=if x∈bA m k0 then some k0 else if x∈bA m k1 then some k1 else none:=by
 have hs:sO L x=m:=hs
 unfold cu
 rw [hs,List.find?_cons,List.find?_cons,List.find?_nil]
 by_cases h0:x∈bA m k0
 ·rw [if_pos h0,decide_eq_true h0]
 ·rw [if_neg h0,decide_eq_false h0]
  by_cases h1:x∈bA m k1
  ·rw [if_pos h1,decide_eq_true h1]
  ·rw [if_neg h1,decide_eq_false h1]
structure Nm (L R:List Prt) (k0 k1:Lnk) (al:Nms) (x:List Nat) (m j:Nat) (b:Prop):Prop where
 p:isP L R x=true
 s:aP L x=m
 l:cu L [k0,k1] x=if j=0 then none else if j=1 then some k0 else some k1
 a:x∈al↔b
 ne:x≠[]
 ln:x.length≤400
theorem d8.rest (h:d8 L R k0 k1 al) {m:Nat} (hm:m≤1) {x:List Nat} (hx:x∈dJ m L R k0 k1 al):Nm L R k0 k1 al x m 0 False:=by
 obtain ⟨h1,h2⟩:=List.mem_filter.mp hx
 have h2:x ∉ um k0 k1 al:=of_decide_eq_true h2
 unfold um at h2
 simp only [List.mem_append,not_or] at h2
 obtain ⟨⟨⟨q1,q2⟩,q3,q4⟩,q5⟩:=h2
 obtain ⟨g1,g2,g3,g4⟩:=h.side hm h1
 refine ⟨g1,g2,?_,⟨fun z=>q5 z,fun z=>z.elim⟩,g3,g4⟩
 rw [qw g2,if_pos rfl]
 match m,hm with
 | 0,_=>rw [if_neg (show x ∉ bA 0 k0 from q1),if_neg (show x ∉ bA 0 k1 from q3)]
 | 1,_=>rw [if_neg (show x ∉ bA 1 k0 from q2),if_neg (show x ∉ bA 1 k1 from q4)]
theorem d8.in0 (h:d8 L R k0 k1 al) {m:Nat} (hm:m≤1) {x:List Nat} (hx:x∈bA m k0):Nm L R k0 k1 al x m 1 False:=by
 obtain ⟨q1,q2,q3⟩:=(h.apart hm).1 x hx
 obtain ⟨g1,g2,g3,g4⟩:=h.side hm q1
 exact ⟨g1,g2,by rw [qw g2,if_pos hx]; rfl,⟨fun z=>q3 z,fun z=>z.elim⟩,g3,g4⟩
theorem d8.in1 (h:d8 L R k0 k1 al) {m:Nat} (hm:m≤1) {x:List Nat} (hx:x∈bA m k1):Nm L R k0 k1 al x m 2 False:=by
 obtain ⟨q1,q2,q3⟩:=(h.apart hm).2.1 x hx
 obtain ⟨g1,g2,g3,g4⟩:=h.side hm q1
 exact ⟨g1,g2,by rw [qw g2,if_neg q2,if_pos hx]; rfl,⟨fun z=>q3 z,fun z=>z.elim⟩,g3,g4⟩
theorem d8.lone (h:d8 L R k0 k1 al) {m:Nat} (hm:m≤1) {x:List Nat} (hx:x∈al∧x∈(sdP m L R).map (·.1)):Nm L R k0 k1 al x m 0 True:=by
 obtain ⟨q2,q3⟩:=(h.apart hm).2.2 x hx.1
 obtain ⟨g1,g2,g3,g4⟩:=h.side hm hx.2
 exact ⟨g1,g2,by rw [qw g2,if_neg q2,if_neg q3]; rfl,⟨fun _=>trivial,fun _=>hx.1⟩,g3,g4⟩
theorem d8.gone (h:d8 L R k0 k1 al) {x:List Nat} (hx:x=QG∨x=QN):isP L R x=false:=by
 unfold isP
 rw [fU]
 refine decide_eq_false fun z=>?_
 obtain ⟨g1,g2⟩:=h.qz x z
 exact hx.elim g1 g2
theorem d8.txt (h:d8 L R k0 k1 al) (x:List Nat):Bj L R x≤400∧FW L R x≤400:=by
 unfold Bj FW
 cases hp:bD (L++R) x with
 | none=>exact ⟨by decide,by decide⟩
 | some p =>
  have:=(h.parts p (qm hp)).2.1
  have g:=M01.J1 p.2.1
  exact ⟨this,Nat.le_trans g this⟩
theorem CsW.at (h:d8 L R k0 k1 al) (hn:n≤1) (c:CsW n L R k0 k1 al he ot th be on tw fa lo sz):At n L R k0 k1 al (wN he ot th be on tw fa lo) sz:=by
 have h1n:1 - n≤1:=by omega
 have w0:=h.rest hn c.f1
 have w1:=h.rest hn c.f2
 have w2:=h.rest h1n c.f3
 have w3:=h.rest h1n c.f4
 have w4:=h.in0 hn c.f5
 have w5:=h.in1 hn c.f6
 have w6:∃ j,j≠0∧Nm L R k0 k1 al fa (1 - n) j False:=c.f7.elim (fun z=>⟨1,by decide,h.in0 h1n z⟩) fun z=>⟨2,by decide,h.in1 h1n z⟩
 obtain ⟨j6,hj6,w6⟩:=w6
 have w7:=h.lone hn c.f8
 have all:∀ w,w≤7→∃ j b,Nm L R k0 k1 al (wN he ot th be on tw fa lo w) (if sdW w=0 then n else 1 - n) j b∧(lkW w=0↔j=0)∧(lkW w=1→j=1)∧(lkW w=2→j=2)∧(b↔w=7):=fun w hw=>by
  match w,hw with
  | 0,_=>exact ⟨0,False,w0,by decide,by decide,by decide,by decide⟩
  | 1,_=>exact ⟨0,False,w1,by decide,by decide,by decide,by decide⟩
  | 2,_=>exact ⟨0,False,w2,by decide,by decide,by decide,by decide⟩
  | 3,_=>exact ⟨0,False,w3,by decide,by decide,by decide,by decide⟩
  | 4,_=>exact ⟨1,False,w4,by decide,by decide,by decide,by decide⟩
  | 5,_=>exact ⟨2,False,w5,by decide,by decide,by decide,by decide⟩
  | 6,_=>exact ⟨j6,False,w6,⟨fun z=>absurd z (by decide),fun z=>absurd z hj6⟩,fun z=>absurd z (by decide),fun z=>absurd z (by decide),by decide⟩
  | 7,_=>exact ⟨0,True,w7,by decide,by decide,by decide,by decide⟩
 refine ⟨hn,fun w hw=>?_,fun w h1 h2=>?_,fun w hw=>?_,fun w hw z=>?_,fun w hw z=>?_,fun w hw z=>?_,fun w hw z=>?_,fun w hw=>?_,rfl,fun w hw=>?_,fun w hw=>?_,?_,c.f9,?_,fun w hw=>(h.txt _).2⟩
 ·obtain ⟨j,b,q,_⟩:=all w hw
  exact q.p
 ·rcases (show w=8∨w=9 by omega) with rfl | rfl
  ·exact h.gone (.inl rfl)
  ·exact h.gone (.inr rfl)
 ·obtain ⟨j,b,q,_⟩:=all w hw
  exact q.s
 ·obtain ⟨j,b,q,g0,g1,g2,g3⟩:=all w hw
  rw [q.l,if_pos (g0.mp z)]
 ·obtain ⟨j,b,q,g0,g1,g2,g3⟩:=all w hw
  rw [q.l,g1 z]; rfl
 ·obtain ⟨j,b,q,g0,g1,g2,g3⟩:=all w hw
  rw [q.l,g2 z]; rfl
 ·obtain ⟨j,b,q,g0,g1,g2,g3⟩:=all w hw
  rw [q.l,if_neg (fun e=>z (g0.mpr e))]
  split <;> rfl
 ·obtain ⟨j,b,q,g0,g1,g2,g3⟩:=all w hw
  exact q.a.trans g3
 ·by_cases z:w≤7
  ·obtain ⟨j,b,q,_⟩:=all w z
   exact q.ne
  ·rcases (show w=8∨w=9 by omega) with rfl | rfl
   ·exact fun z=>by cases z
   ·exact fun z=>by cases z
 ·by_cases z:w≤7
  ·obtain ⟨j,b,q,_⟩:=all w z
   exact q.ln
  ·rcases (show w=8∨w=9∨w=10 by omega) with rfl | rfl | rfl
   ·show QG.length≤400; decide
   ·show QN.length≤400; decide
   ·show ([]:List Nat).length≤400; decide
 ·refine rT fun z=>?_
  have:=h.up
  rw [z,tW] at this
  cases this
 ·rw [← c.f9]
  exact (h.txt _).1
theorem At.sm (h:At n L R k0 k1 al (wN he ot th be on tw fa lo) sz) {a:Ad} (hok:a.ok=true):(a.dd n (wN he ot th be on tw fa lo) sz).sm:=by
 have ln:=h.ln
 have il:∀ i,0≤idI sz i∧idI sz i≤1000:=fun i=>by
  have:=h.sz4
  match i with
  | 0=>exact ⟨by show (0:Int)≤0; decide,by show (0:Int)≤1000; decide⟩
  | 1=>exact ⟨by show (0:Int)≤1; decide,by show (1:Int)≤1000; decide⟩
  | 2=>exact ⟨by show (0:Int)≤400; decide,by show (400:Int)≤1000; decide⟩
  | 3=>exact ⟨by show (0:Int)≤(sz:Nat); omega,by show ((sz:Nat):Int)≤1000; omega⟩
  | i+4=>exact ⟨by show (0:Int)≤(sz:Nat)+1; omega,by show ((sz:Nat):Int)+1≤1000; omega⟩
 cases a <;> simp only [Ad.ok,Bool.and_eq_true,decide_eq_true_eq,List.all_eq_true] at hok
 ·exact ⟨h.n1,ln _ hok.1,ln _ (Nat.le_trans hok.2 (by decide))⟩
 ·exact ln _ (Nat.le_trans hok (by decide))
 ·exact ⟨ln _ (Nat.le_trans hok.1.1 (by decide)),ln _ (Nat.le_trans hok.2 (by decide)),il _⟩
 ·exact ⟨ln _ (Nat.le_trans hok.1 (by decide)),ln _ (Nat.le_trans hok.2 (by decide))⟩
 ·exact ⟨ln _ (Nat.le_trans hok.1 (by decide)),ln _ hok.2⟩
 ·exact ln _ (Nat.le_trans hok.1 (by decide))
 ·exact ⟨ln _ (Nat.le_trans hok.1 (by decide)),il _⟩
 ·refine ⟨fun x hx=>?_,by rw [List.length_map]; exact hok.1.2,by rw [List.length_map]; exact hok.2⟩
  rw [← List.map_append] at hx
  obtain ⟨y,hy,rfl⟩:=List.mem_map.mp hx
  exact ln _ (Nat.le_trans (hok.1.1 y hy) (by decide))
 all_goals exact ln _ (Nat.le_trans hok (by decide))
theorem d8.bks (h:d8 L R k0 k1 al):BkS L R [k0,k1] :=
 ⟨⟨Nat.le_trans h.l19 (by decide),Nat.le_trans h.r19 (by decide),fun p hp=>Nat.le_trans (h.parts p hp).2.2.2.2.2 (by decide)⟩,fun p hp=>(h.parts p hp).2.1,fun k hk=>yG (h.len k hk)⟩
end
def CT (K:PySem.W.Frag):Sp:=fun vs H Q _=>∃ (a:Addr) (ns:List Int),vs=[.ref a]∧SqL K H a (ns.map V.int)∧ns.length≤63∧∀ H',Q (.bl true) H'
def RR (n:Nat):List (Str × Nat × Ad):=ROWS++if n=0 then Hr else []
theorem Lg (n:Nat):∀ r∈RR n,Gr n r.1 r.2.1 r.2.2=true:=fun r hr=>by
 unfold RR at hr
 rcases List.mem_append.mp hr with z | z
 ·exact List.all_eq_true.mp (Ho n) r z
 ·split at z
  ·rename_i e
   subst e
   exact List.all_eq_true.mp Ck r z
  ·cases z
theorem Jq {n:Nat} (hn:n≤1):fP.map V.str++(List.replicate ((1:Int) - (n:Nat)).toNat (gH.map V.str)).flatten=(RR n).map fun r=>V.str r.1:=by
 unfold RR
 rw [Gm,Cy,List.map_append,List.map_map]
 match n,hn with
 | 0,_ =>
  show _++(List.replicate 1 _).flatten=_
  simp
  rfl
 | 1,_ =>
  show _++(List.replicate 0 _).flatten=_
  simp
theorem IK (n:Nat):(RR n).length≤100:=by
 unfold RR
 split
 ·decide +kernel
 ·decide +kernel
theorem JF (L R L' R':List Prt) (ks ks':List Lnk) (al al':Nms):qK [D.tup (L.map bG),.tup (R.map bG),.tup (ks.map bK),eU al] [D.tup (L'.map bG),.tup (R'.map bG),.tup (ks'.map bK),eU al'] :=
 eX (oX (iW pL L L')) (eX (oX (iW pL R R')) (eX (oX (iW qd ks ks')) (eX (mJ al al') (rQ _))))
theorem Fd {L R:List Prt} {ks:List Lnk} {al:Nms} (h1:L.length≤1000) (h2:R.length≤1000) (hp:∀ p∈L++R,p.2.2.length≤1000) (hk:∀ k∈ks,fH 3 (bK k)) (hkl:ks.length≤1000) (ha:al.length≤1000):fH 5 (dH L R ks al):=by
 refine dX (by simp) fun d hd=>?_
 simp only [List.mem_cons,List.not_mem_nil,or_false] at hd
 rcases hd with rfl | rfl | rfl | rfl
 ·refine (dX (n:=2) (by rw [List.length_map]; omega) fun d hd=>?_).up
  obtain ⟨p,hp',rfl⟩:=List.mem_map.mp hd
  exact jz (hp p (List.mem_append_left _ hp'))
 ·refine (dX (n:=2) (by rw [List.length_map]; omega) fun d hd=>?_).up
  obtain ⟨p,hp',rfl⟩:=List.mem_map.mp hd
  exact jz (hp p (List.mem_append_right _ hp'))
 ·refine dX (n:=3) (by rw [List.length_map]; omega) fun d hd=>?_
  obtain ⟨q,hq,rfl⟩:=List.mem_map.mp hd
  exact hk q hq
 ·exact (j5 ha).up.up.up
section
variable {P:Program} {w:World} {K:PySem.W.Frag} {mg:Str→Option Value} {base:Heap} {a_NoPart a_TwainError a_NoPlace a_Twice a_Linked a_Apart a_NoDeed a_NoText:Addr}
theorem qD:aK ["_law_script", "_law_pot_here", "_law_book", "_law_t", "_law_good", "_law_first", "_law_side", "_law_cast_here", "_law_row"] ["_law_script"] (aC CW):=⟨rfl,rfl,rfl,by decide +kernel,rfl,by decide +kernel,by decide +kernel⟩
theorem JM {f:Addr} {fd:FuncData} (F:Fun K "law" "law" CW f fd) (C_pot:Cal P w K mg base "_law_pot" 1 ["_law_script"] (Jf K)) (C_rich:Cal P w K mg base "_law_rich" 4 ["_law_pot_here"] Ez) (C_moments:Cal P w K mg base "_law_moments" 2 ["_law_pot_here", "_law_many"] mz) (C_done:cM P w K mg base "done" 7 ["book", "deed"] (nY (c5 a_NoPart a_NoPlace a_Twice a_Linked a_Apart))) (C_cast:Cal P w K mg base "_law_cast" 3 ["_law_pot_here", "_law_book", "_law_side"] DQ) (C_rows:Cal P w K mg base "_law_rows" 1 [] Ef) (C_link_rows:Cal P w K mg base "_law_link_rows" 1 [] xG) (C_tried:Cal P w K mg base "_law_tried" 8 ["_law_book", "_law_deed"] (zP K a_TwainError (a7 a_NoPart a_NoPlace a_Twice a_Linked a_Apart a_NoDeed a_NoText) (c5 a_NoPart a_NoPlace a_Twice a_Linked a_Apart))) (C_deed_of:Cal P w K mg base "_law_deed_of" 1 ["_law_cast_here", "_law_t", "_law_row"] vJ) (hKC:∀ e,e≤4→KC K a_TwainError (a7 a_NoPart a_NoPlace a_Twice a_Linked a_Apart a_NoDeed a_NoText) e∧(c5 a_NoPart a_NoPlace a_Twice a_Linked a_Apart) e=(a7 a_NoPart a_NoPlace a_Twice a_Linked a_Apart a_NoDeed a_NoText) e):m9 P w K mg base CX0 9 f fd ["_law_script"] (CT K):=by
 refine F.ok qD (fun vs H Q E hs=>?_) (fun cdv A outer s H vs Q E hr hs=>?_)
 ·obtain ⟨a,ns,rfl,_⟩:=hs
  rfl
 obtain ⟨a,ns,rfl,hS,hl,k⟩:=hs
 refine ⟨_,(ao (aH (i:=1) qD.nd rfl (Or.inl rfl) (aY C_pot hr (by decide) rfl (aj (pv 0) au)))
  (ao (aH (i:=2) qD.nd rfl (Or.inl rfl) (aY C_rich hr (by decide) rfl (aj (pv 1) au)))
  (ao (aH (i:=3) qD.nd rfl (Or.inl rfl) (aM aO (aY C_moments hr (by decide) rfl (aj (pv 1) (aj aB au))) aB (fun _ _=>rfl)))
  (ao (aH (i:=4) qD.nd rfl (Or.inl rfl) (cH (aj aA (aj (pv 3) (aj aB (aj aA (aj aA (aj aA au))))))))
  (ao (aH (i:=5) qD.nd rfl (Or.inl rfl) (aW C_done hr (by decide) rfl uf (aj (pv 2) (aj (pv 4) au))))
  (ao (fQ PassesOwn.never rfl (dR (cH (aj aB (aj aB au)))) (aU (i:=6) qD.nd rfl (Or.inl rfl))
   (ao (aH (i:=7) qD.nd rfl (Or.inl rfl) (aY C_cast hr (by decide) rfl (aj (pv 1) (aj (pv 2) (aj (pv 6) au)))))
  (aF (fQ PassesOwn.never rfl (jq (aV mL (yI C_rows hr (by decide) rfl) (aV Jc (yI C_link_rows hr (by decide) rfl) (aV oO aB (pv 6))))) (aU (i:=8) qD.nd rfl (Or.inl rfl))
   (aF (dM (bh (Ir hr.units) (aY C_tried hr (by decide) rfl (aj (pv 2) (aj (aY C_deed_of hr (by decide) rfl (aj (pv 7) (aj (pv 3) (aj (pv 8) au)))) au))) (cH (aj jh (aj (aM cC (gD PySem.F.plainAttrs_str PySem.F.slot_str_split PySem.F.type_str_split lZ (pv 8) (aj aA au)) aB (fun _ _=>rfl)) au))) (bZ _))
   (aF (bx GZ))
   bN))))))
  (aF (bx (fJ (Hz hr.units) (aW C_done hr (by decide) rfl uf (aj (pv 2) (aj (pv 4) au))) (pv 5) (bZ _)))))))))),?_⟩
 refine ⟨_,rfl,a,ns,rfl,hS,hl,fun d lo H1 s1 p1=>?_⟩
 refine ⟨_,rfl,d,lo,rfl,p1,fun v L R k0 k1 al H2 dv2 rd p2 o2=>?_⟩
 refine ⟨_,rfl,d,lo,1,rfl,p2,by decide,fun q ms H3 e3 g3 hl3 p3 o3=>?_⟩
 obtain ⟨tm,rfl⟩:∃ tm,ms=[tm]:=by
  match ms,hl3 with
  | [tm],_=>exact ⟨tm,rfl⟩
 refine ⟨q,_,_,_,rfl,rfl,SqT.of e3,aR _ _,?_⟩
 have dv3:=dv2.keepT (bI p2 o3)
 clear s1 p1 dv2 o2 p2 o3 e3
 refine ⟨_,rfl,smn 6,fun pg hpg=>?_⟩
 have s4:=aq hpg (.tup [.str (Str.ofString "put"),.int tm,.int 1,.str (Str.ofString ""),.str (Str.ofString "zzyyxxww"),.str (Str.ofString "a")])
 have e4:(upd H3 pg (.tup [.str (Str.ofString "put"),.int tm,.int 1,.str (Str.ofString ""),.str (Str.ofString "zzyyxxww"),.str (Str.ofString "a")])) pg=some (.tup [.str Cp,.int tm,.int ((1:Nat):Int),mkT [],mkT QG,mkT [97]]):=by
  rw [ak,Mp,Mt,a_t]
  rfl
 generalize upd H3 pg (.tup [.str (Str.ofString "put"),.int tm,.int 1,.str (Str.ofString ""),.str (Str.ofString "zzyyxxww"),.str (Str.ofString "a")])=H4 at s4 e4 ⊢
 have p4:=p3.same s4
 have dv4:=dv3.same s4
 have hbk:=rd.bks
 have hpn:wX L R 1 [] QG=none:=by
  unfold wX eG
  have:=rd.gone (x:=QG) (.inl rfl)
  unfold isP at this
  rw [if_pos rfl,this]
  rfl
 clear dv3 p3 hpg
 have hput:∀ (H:Hp) (Q:VK) (E:XK),Den H v (dH L R [k0,k1] al)→H pg=some (.tup [.str Cp,.int tm,.int ((1:Nat):Int),mkT [],mkT QG,mkT [97]])→(∀ (u:V) (H':Hp),Same H H'→Den H' u (dH (cQ 1 L R (wj (sdP 1 L R) [] (QG,[97],[tm]))).1 (cQ 1 L R (wj (sdP 1 L R) [] (QG,[97],[tm]))).2 [k0,k1] al)→Q u H')→nY (c5 a_NoPart a_NoPlace a_Twice a_Linked a_Apart) [v,.ref pg] H Q E:=fun H Q E h1 h2 h3=>.inl ⟨v,pg,tm,1,[],QG,[97],L,R,[k0,k1],al,rfl,h1,h2,by decide,by decide,by decide,hbk.sm,fun _=>h3,fun e z=>by rw [hpn] at z; cases z⟩
 refine ⟨_,rfl,_,rfl,hput _ _ _ dv4 e4 fun u H5 s5 du=>?_⟩
 have hRl:(cQ 1 L R (wj (sdP 1 L R) [] (QG,[97],[tm]))).2.length≤1000∧∀ p∈(cQ 1 L R (wj (sdP 1 L R) [] (QG,[97],[tm]))).1++(cQ 1 L R (wj (sdP 1 L R) [] (QG,[97],[tm]))).2,p.2.2.length≤1000:=by
  have e:(cQ 1 L R (wj (sdP 1 L R) [] (QG,[97],[tm])))=(L,(QG,[97],[tm]) :: R):=rfl
  rw [e]
  have:=rd.r19
  refine ⟨by show R.length+1≤1000; omega,fun p hp=>?_⟩
  rcases List.mem_append.mp hp with z | z
  ·exact hbk.sm.2.2 p (List.mem_append_left _ z)
  ·rcases List.mem_cons.mp z with rfl | z
   ·show 1≤1000; decide
   ·exact hbk.sm.2.2 p (List.mem_append_right _ z)
 have hLl:(cQ 1 L R (wj (sdP 1 L R) [] (QG,[97],[tm]))).1.length≤1000:=Nat.le_trans rd.l19 (by decide)
 have hsh:=Fd hLl hRl.1 hRl.2 (fun k hk=>uQ (rd.len k hk)) (by show 2≤1000; decide) (by rw [rd.al2]; decide)
 generalize (cQ 1 L R (wj (sdP 1 L R) [] (QG,[97],[tm]))).1=L' at du hsh hput
 generalize (cQ 1 L R (wj (sdP 1 L R) [] (QG,[97],[tm]))).2=R' at du hsh hput
 clear hRl hLl hpn
 have p5:=p4.same s5
 have dv5:=dv4.same s5
 have e5:=s5 _ _ e4
 clear p4 dv4 e4 s4
 refine gN ?_
 refine nxP (fun σ H'=>∃ (v6 v7 v8:Option V),σ=[some (.ref a),some (.ref d),some v,some (.int tm),some (.ref pg),some u,v6,v7,v8]∧bQ d lo H'∧Den H' v (dH L R [k0,k1] al)∧H' pg=some (.tup [.str Cp,.int tm,.int ((1:Nat):Int),mkT [],mkT QG,mkT [97]])∧Den H' u (dH L' R' [k0,k1] al)) (fun N hN=>?_) ?_
 ·refine ⟨smn 2,fun ts hts=>⟨ts,rfl,⟨_,SqT.of ak⟩,?_⟩⟩
  have s6:=aq hts (.tup [.int 0,.int 1])
  refine mK (K:=K) (a:=ts) (xs:=[.int 0,.int 1]) (fun i σ H'=>∃ (v6 v7 v8:Option V),σ=[some (.ref a),some (.ref d),some v,some (.int tm),some (.ref pg),some u,v6,v7,v8]∧bQ d lo H'∧Den H' v (dH L R [k0,k1] al)∧H' pg=some (.tup [.str Cp,.int tm,.int ((1:Nat):Int),mkT [],mkT QG,mkT [97]])∧Den H' u (dH L' R' [k0,k1] al)∧H' ts=some (.tup [.int 0,.int 1])) ?_ ?_ ?_ ?_
  ·exact ⟨none,none,none,rfl,p5.same s6,dv5.same s6,s6 _ _ e5,du.same s6,ak⟩
  ·rintro i σ H' _ ⟨v6,v7,v8,rfl,_,_,_,_,y⟩
   exact SqT.of y
  ·rintro n x σ H6 hx ⟨v6,v7,v8,rfl,p6,dv6,e6,du6,y6⟩
   have hn:n < 2:=(List.getElem?_eq_some_iff.mp hx).1
   have ex:x=.int (n:Nat):=by
    match n,hn with
    | 0,_=>cases hx; rfl
    | 1,_=>cases hx; rfl
   subst ex
   refine gN ?_
   refine jf (fun σ H'=>∃ (c:Addr) (he ot th be on tw fa lo':List Nat) (sz:Nat),σ=[some (.ref a),some (.ref d),some v,some (.int tm),some (.ref pg),some u,some (.int (n:Nat)),some (.ref c),v8]∧CsW n L R k0 k1 al he ot th be on tw fa lo' sz∧Cs d lo c v (dH L R [k0,k1] al) H6 (dz n he ot th be on tw fa lo' sz) H') (fun N2 hN2=>?_) ?_
   ·exact ⟨_,rfl,_,rfl,_,rfl,d,lo,v,n,L,R,k0,k1,al,rfl,by omega,p6,dv6,rd,fun c he ot th be on tw fa lo' sz H7 cw cs=>hN2 _ _ ⟨c,he,ot,th,be,on,tw,fa,lo',sz,rfl,cw,cs⟩⟩
   rintro σ H7 ⟨c,he,ot,th,be,on,tw,fa,lo',sz,rfl,cw,cs7⟩
   have at7:=CsW.at rd (by omega) cw
   have kt7:=bI p6 cs7.o
   have e7:=kt7 _ _ e6
   have du7:=du6.keepT kt7
   have y7:=kt7 _ _ y6
   have dv7:=cs7.b
   have p7:=cs7.p
   obtain ⟨kvs,ek,_,hkv⟩:=cs7.e
   clear dv6 e6 du6 y6 kt7 cs7 p6
   refine ⟨rfl,fun l8 H8 s8 f8 e8=>⟨rfl,fun l9 H9 s9 f9 e9=>⟨_,rfl,_,_,rfl,rfl,l9,_,_,rfl,rfl,e9,by omega,by omega,?_,fun l10 hl10=>?_⟩⟩⟩
   ·rw [List.length_map]
    have:gH.length=14:=rfl
    rw [this]
    exact Nat.le_trans (show 14 * ((1:Int) - (n:Nat)).toNat≤1000000 by omega) bR
   have s10:=aq hl10 (.lst (List.replicate ((1:Int) - (n:Nat)).toNat (gH.map V.str)).flatten)
   have e10:(upd H9 l10 (.lst (List.replicate ((1:Int) - (n:Nat)).toNat (gH.map V.str)).flatten)) l10=some (.lst (List.replicate ((1:Int) - (n:Nat)).toNat (gH.map V.str)).flatten):=ak
   have s79:=s8.trans (s9.trans s10)
   refine ⟨l8,l10,_,_,rfl,rfl,s10 _ _ (s9 _ _ e8),e10,?_,fun ll hll=>?_⟩
   ·rw [← List.length_append,Jq (by omega),List.length_map]
    exact small (Nat.le_trans (IK n) (by decide))
   have s11:=s79.trans (aq hll (.lst (fP.map V.str++(List.replicate ((1:Int) - (n:Nat)).toNat (gH.map V.str)).flatten)))
   refine ⟨ll,rfl,⟨_,SqL.of ak⟩,?_⟩
   refine lH (K:=K) (a:=ll) (xs:=(RR n).map fun r=>V.str r.1) (fun i σ H'=>∃ v8:Option V,σ=[some (.ref a),some (.ref d),some v,some (.int tm),some (.ref pg),some u,some (.int (n:Nat)),some (.ref c),v8]∧Same H7 H'∧H' ll=some (.lst ((RR n).map fun r=>V.str r.1))) ?_ ?_ ?_ ?_
   ·exact ⟨_,rfl,s11,by rw [ak,Jq (by omega)]⟩
   ·rintro i σ H' _ ⟨_,_,_,y⟩
    exact SqL.of y
   ·clear s8 s9 s10 s11 s79 e8 e9 e10
    rintro i x σ H11 hx ⟨v8',rfl,s11,y11⟩
    have hil:i < (RR n).length:=by
     have:=(List.getElem?_eq_some_iff.mp hx).1
     rwa [List.length_map] at this
    have ex:x=.str (RR n)[i].1:=by
     rw [List.getElem?_map,bM hil] at hx
     exact (Option.some.inj hx).symm
    have hrow:=Lg n _ (List.getElem_mem hil)
    generalize (RR n)[i]=r at ex hrow
    obtain ⟨ws,hrs,hit,href,he4,hok,hisl⟩:=HB hrow
    subst ex
    obtain ⟨kc,hce⟩:=hKC _ he4
    refine gN ?_
    refine ⟨_,rfl,_,rfl,_,rfl,_,rfl,c,tm,r.1,CG r.2.1,r.2.2.wd,ws,kvs,rfl,s11 _ _ ek,hrs,fun w hw x hx=>Gj hkv hok (je w) (by rw [← hit]; exact List.mem_map_of_mem hw) x hx,fun q us H12 s12 e12 th12=>?_⟩
    rw [hit] at th12
    refine ⟨v,q,r.2.1,rfl,he4,kc,hce,fun Q' E' thr=>.inr ⟨_,v,q,tm,r.2.2.dd n (wN he ot th be on tw fa lo') sz,L,R,[k0,k1],al,r.2.1,rfl,dv7.same (s11.trans s12),Gp hkv hok e12 th12,rfl,hbk,at7.sm hok,at7.ref hok hisl href,thr⟩,fun t13 H13 s13 e13=>?_⟩
    refine ⟨_,rfl,rfl,_,_,rfl,rfl,Nat.le_trans hrs.len (by decide),by decide +kernel,Nat.le_trans hrs.ns (by decide),fun l14 hl14=>?_⟩
    rw [hrs.sp]
    refine ⟨l14,_,_,_,rfl,rfl,SqL.of ak,aR _ _,smn 2,fun t15 ht15=>?_⟩
    have s14:=aq hl14 (.lst ((CG r.2.1 :: r.2.2.wd :: ws).map V.str))
    have s15:=aq ht15 (.tup [.non,.str (CG r.2.1)])
    have s1115:=((s11.trans s12).trans s13).trans (s14.trans s15)
    refine ⟨t13,t15,CG r.2.1,rfl,rfl,s15 _ _ (s14 _ _ e13),ak,_,rfl,?_⟩
    refine fV (fun z=>by cases z) (fun _=>?_)
    exact ⟨_,rfl,s1115,s15 _ _ (s14 _ _ (s13 _ _ (s12 _ _ y11)))⟩
   ·rintro σ H' ⟨_,rfl,s12,_⟩
    exact ⟨_,_,_,rfl,p7.same s12,dv7.same s12,s12 _ _ e7,du7.same s12,s12 _ _ y7⟩
  ·rintro σ H6 ⟨v6,v7,v8,rfl,p6,dv6,e6,du6,_⟩
   exact hN _ _ ⟨v6,v7,v8,rfl,p6,dv6,e6,du6⟩
 rintro σ H6 ⟨v6,v7,v8,rfl,p6,dv6,e6,du6⟩
 refine ⟨_,rfl,_,rfl,hput _ _ _ dv6 e6 fun u2 H7 s7 du7=>?_⟩
 refine ⟨_,rfl,_,_,4,du7,du6.same s7,hsh,hsh,by decide,JF _ _ _ _ _ _ _ _,?_⟩
 rw [lY]
 exact k H7
end
theorem all_mk {l:PySem.W.OpenLaw} {w:World} {K:PySem.W.Frag} {h:Heap} {mg:Str→Option Value} {fa f46:Addr} (X:K.In h) (G:h.Ns mainGlobals mg) (hfa:mg "law" = some (.ref fa))
  {od46 an46:Option Addr} {sl46:Array (Option Value)} {oc46 kV46 dc46 pm46 cd46 ct46:Value}
  (i1:FnI K "names_of" jV)
  (i2:FnI K "part_of" qp)
  (i3:FnI K "has_part" lE)
  (i4:FnI K "side_of" qg)
  (i5:FnI K "text_of" pP)
  (i6:FnI K "link_of" pO)
  (i7:FnI K "is_lacking" iQ)
  (i8:FnI K "is_word_sign" Ib)
  (i9:FnI K "words_of" nZ)
  (i10:FnI K "replaced" jB)
  (i11:FnI K "parts_with" fY)
  (i12:FnI K "relinked" jT)
  (i13:FnI K "check_behind" eV)
  (i14:FnI K "check_new" jK)
  (i15:FnI K "needed_link" gw)
  (i16:FnI K "put_done" lN)
  (i17:FnI K "take_done" jF)
  (i18:FnI K "part_done" jH)
  (i19:FnI K "check_joined" fB)
  (i20:FnI K "join_done" jM)
  (i21:FnI K "move_done" jy)
  (i22:FnI K "changed" lU)
  (i23:FnI K "change_done" gj)
  (i24:FnI K "word_done" jR)
  (i25:FnI K "check_linkable" bU)
  (i26:FnI K "link_done" jD)
  (i27:FnI K "loose_done" iU)
  (i28:FnI K "step_done" jO)
  (i29:FnI K "alone_done" iZ)
  (i30:FnI K "lack_done" jU)
  (i31:FnI K "done" BK)
  (i32:FnI K "_law_pot" Kh)
  (i33:FnI K "_law_next" Cz)
  (i34:FnI K "_law_count" vL)
  (i35:FnI K "_law_names" mj)
  (i36:FnI K "_law_taken" vA)
  (i37:FnI K "_law_text" CZ)
  (i38:FnI K "_law_moments" lD)
  (i39:FnI K "_law_rich" wD)
  (i40:FnI K "_law_tried" vg)
  (i41:FnI K "_law_one_of" uU)
  (i42:FnI K "_law_cast" pR)
  (i43:FnI K "_law_deed_of" nj)
  (i44:FnI K "_law_rows" Ci)
  (i45:FnI K "_law_link_rows" jP)
  (a46:PySem.W.nsIn K mainGlobals "law" = some (some (.ref f46))) (l46:K.lookup f46=some ⟨oc46,od46,.func (PySem.W.fnOf "law" "law" (iB CW) (eF CW) (aC CW) .none kV46 dc46 pm46 an46 cd46 ct46),sl46⟩) (c46:PySem.W.codeIn K cd46 "law" = true) (k46:PySem.W.keepIn K (.ref f46)=true)
  {t_DOERS:Addr} (p_DOERS:PySem.W.nsIn K mainGlobals "DOERS" = some (some (.ref t_DOERS))) (kt_DOERS:KFT K t_DOERS iw)
  {a_NoPart a_NoPlace a_Twice a_Apart a_Linked a_TwainError a_NoText a_NoDeed:Addr} (p_NoPart:PySem.W.nsIn K mainGlobals "NoPart" = some (some (.ref a_NoPart))) (p_NoPlace:PySem.W.nsIn K mainGlobals "NoPlace" = some (some (.ref a_NoPlace))) (p_Twice:PySem.W.nsIn K mainGlobals "Twice" = some (some (.ref a_Twice))) (p_Apart:PySem.W.nsIn K mainGlobals "Apart" = some (some (.ref a_Apart))) (p_Linked:PySem.W.nsIn K mainGlobals "Linked" = some (some (.ref a_Linked))) (p_TwainError:PySem.W.nsIn K mainGlobals "TwainError" = some (some (.ref a_TwainError))) (p_NoText:PySem.W.nsIn K mainGlobals "NoText" = some (some (.ref a_NoText))) (p_NoDeed:PySem.W.nsIn K mainGlobals "NoDeed" = some (some (.ref a_NoDeed))) (x_NoPart:PySem.W.excIn K a_NoPart vBm "ValueError.__new__" = true) (x_NoPlace:PySem.W.excIn K a_NoPlace vBm "ValueError.__new__" = true) (x_Twice:PySem.W.excIn K a_Twice vBm "ValueError.__new__" = true) (x_Apart:PySem.W.excIn K a_Apart vBm "ValueError.__new__" = true) (x_Linked:PySem.W.excIn K a_Linked vBm "ValueError.__new__" = true) (x_TwainError:PySem.W.excIn K a_TwainError vBm "ValueError.__new__" = true) (b0k:KB K a_NoPart a_TwainError) (n01k:PySem.W.kin_not K a_NoPart a_NoPlace=true) (n02k:PySem.W.kin_not K a_NoPart a_Twice=true) (n03k:PySem.W.kin_not K a_NoPart a_Linked=true) (n04k:PySem.W.kin_not K a_NoPart a_Apart=true) (n05k:PySem.W.kin_not K a_NoPart a_NoDeed=true) (n06k:PySem.W.kin_not K a_NoPart a_NoText=true) (b1k:KB K a_NoPlace a_TwainError) (n10k:PySem.W.kin_not K a_NoPlace a_NoPart=true) (n12k:PySem.W.kin_not K a_NoPlace a_Twice=true) (n13k:PySem.W.kin_not K a_NoPlace a_Linked=true) (n14k:PySem.W.kin_not K a_NoPlace a_Apart=true) (n15k:PySem.W.kin_not K a_NoPlace a_NoDeed=true) (n16k:PySem.W.kin_not K a_NoPlace a_NoText=true) (b2k:KB K a_Twice a_TwainError) (n20k:PySem.W.kin_not K a_Twice a_NoPart=true) (n21k:PySem.W.kin_not K a_Twice a_NoPlace=true) (n23k:PySem.W.kin_not K a_Twice a_Linked=true) (n24k:PySem.W.kin_not K a_Twice a_Apart=true) (n25k:PySem.W.kin_not K a_Twice a_NoDeed=true) (n26k:PySem.W.kin_not K a_Twice a_NoText=true) (b3k:KB K a_Linked a_TwainError) (n30k:PySem.W.kin_not K a_Linked a_NoPart=true) (n31k:PySem.W.kin_not K a_Linked a_NoPlace=true) (n32k:PySem.W.kin_not K a_Linked a_Twice=true) (n34k:PySem.W.kin_not K a_Linked a_Apart=true) (n35k:PySem.W.kin_not K a_Linked a_NoDeed=true) (n36k:PySem.W.kin_not K a_Linked a_NoText=true) (b4k:KB K a_Apart a_TwainError) (n40k:PySem.W.kin_not K a_Apart a_NoPart=true) (n41k:PySem.W.kin_not K a_Apart a_NoPlace=true) (n42k:PySem.W.kin_not K a_Apart a_Twice=true) (n43k:PySem.W.kin_not K a_Apart a_Linked=true) (n45k:PySem.W.kin_not K a_Apart a_NoDeed=true) (n46k:PySem.W.kin_not K a_Apart a_NoText=true)
  (z_len:PySem.W.nsIn K mainGlobals "len" = some none) (z_int:PySem.W.nsIn K mainGlobals "int" = some none) (z_range:PySem.W.nsIn K mainGlobals "range" = some none) (z_isinstance:PySem.W.nsIn K mainGlobals "isinstance" = some none) (z_tuple:PySem.W.nsIn K mainGlobals "tuple" = some none) (z_bool:PySem.W.nsIn K mainGlobals "bool" = some none) (z_str:PySem.W.nsIn K mainGlobals "str" = some none) (z_list:PySem.W.nsIn K mainGlobals "list" = some none) (z_sorted:PySem.W.nsIn K mainGlobals "sorted" = some none) (z_min:PySem.W.nsIn K mainGlobals "min" = some none) (z_ValueError:PySem.W.nsIn K mainGlobals "ValueError" = some none) (z_sum:PySem.W.nsIn K mainGlobals "sum" = some none) (z_any:PySem.W.nsIn K mainGlobals "any" = some none) (z_all:PySem.W.nsIn K mainGlobals "all" = some none) :
  ∃ fd:FuncData,(∀ (s:Shared) (v:Value),BindsTo s fd ⟨[v],[]⟩ [("_law_script",v)])∧∀ base:Heap,K.In base→base.Ns mainGlobals mg→m9 l.prog w K mg base CX0 9 fa fd ["_law_script"] (CT K):=by
 have e:=hfa.symm.trans (PySem.W.mg_of X G a46)
 cases e
 have h_names_of:Has K mg "names_of" jV ["book"]:=i1.has X G fun _ _ _ _ _ _ us hl=>len1 us hl fun _=>rfl
 have h_part_of:Has K mg "part_of" qp ["book", "name"]:=i2.has X G fun _ _ _ _ _ _ us hl=>len2 us hl fun _ _=>rfl
 have h_has_part:Has K mg "has_part" lE ["book", "name"]:=i3.has X G fun _ _ _ _ _ _ us hl=>len2 us hl fun _ _=>rfl
 have h_side_of:Has K mg "side_of" qg ["book", "name"]:=i4.has X G fun _ _ _ _ _ _ us hl=>len2 us hl fun _ _=>rfl
 have h_text_of:Has K mg "text_of" pP ["book", "name"]:=i5.has X G fun _ _ _ _ _ _ us hl=>len2 us hl fun _ _=>rfl
 have h_link_of:Has K mg "link_of" pO ["book", "name"]:=i6.has X G fun _ _ _ _ _ _ us hl=>len2 us hl fun _ _=>rfl
 have h_is_lacking:Has K mg "is_lacking" iQ ["book", "name"]:=i7.has X G fun _ _ _ _ _ _ us hl=>len2 us hl fun _ _=>rfl
 have h_isw:Has K mg "is_word_sign" Ib ["sign"]:=i8.has X G fun _ _ _ _ _ _ us hl=>len1 us hl fun _=>rfl
 have h_words:Has K mg "words_of" nZ ["text"]:=i9.has X G fun _ _ _ _ _ _ us hl=>len1 us hl fun _=>rfl
 have h_replaced:Has K mg "replaced" jB ["row", "place", "thing"]:=i10.has X G fun _ _ _ _ _ _ us hl=>BX us hl fun _ _ _=>rfl
 have h_parts_with:Has K mg "parts_with" fY ["parts", "behind", "part"]:=i11.has X G fun _ _ _ _ _ _ us hl=>BX us hl fun _ _ _=>rfl
 have h_relinked:Has K mg "relinked" jT ["book", "old", "new"]:=i12.has X G fun _ _ _ _ _ _ us hl=>BX us hl fun _ _ _=>rfl
 have h_check_behind:Has K mg "check_behind" eV ["book", "side", "behind"]:=i13.has X G fun _ _ _ _ _ _ us hl=>BX us hl fun _ _ _=>rfl
 have h_check_new:Has K mg "check_new" jK ["book", "name"]:=i14.has X G fun _ _ _ _ _ _ us hl=>len2 us hl fun _ _=>rfl
 have h_needed_link:Has K mg "needed_link" gw ["book", "name"]:=i15.has X G fun _ _ _ _ _ _ us hl=>len2 us hl fun _ _=>rfl
 have h_put_done:Has K mg "put_done" lN ["book", "deed"]:=i16.has X G fun _ _ _ _ _ _ us hl=>len2 us hl fun _ _=>rfl
 have h_take_done:Has K mg "take_done" jF ["book", "deed"]:=i17.has X G fun _ _ _ _ _ _ us hl=>len2 us hl fun _ _=>rfl
 have h_part_done:Has K mg "part_done" jH ["book", "deed"]:=i18.has X G fun _ _ _ _ _ _ us hl=>len2 us hl fun _ _=>rfl
 have h_check_joined:Has K mg "check_joined" fB ["book", "name", "other"]:=i19.has X G fun _ _ _ _ _ _ us hl=>BX us hl fun _ _ _=>rfl
 have h_join_done:Has K mg "join_done" jM ["book", "deed"]:=i20.has X G fun _ _ _ _ _ _ us hl=>len2 us hl fun _ _=>rfl
 have h_move_done:Has K mg "move_done" jy ["book", "deed"]:=i21.has X G fun _ _ _ _ _ _ us hl=>len2 us hl fun _ _=>rfl
 have h_changed:Has K mg "changed" lU ["book", "name", "text", "t"]:=i22.has X G fun _ _ _ _ _ _ us hl=>Mw us hl fun _ _ _ _=>rfl
 have h_change_done:Has K mg "change_done" gj ["book", "deed"]:=i23.has X G fun _ _ _ _ _ _ us hl=>len2 us hl fun _ _=>rfl
 have h_word_done:Has K mg "word_done" jR ["book", "deed"]:=i24.has X G fun _ _ _ _ _ _ us hl=>len2 us hl fun _ _=>rfl
 have h_check_linkable:Has K mg "check_linkable" bU ["book", "ones", "others"]:=i25.has X G fun _ _ _ _ _ _ us hl=>BX us hl fun _ _ _=>rfl
 have h_link_done:Has K mg "link_done" jD ["book", "deed"]:=i26.has X G fun _ _ _ _ _ _ us hl=>len2 us hl fun _ _=>rfl
 have h_loose_done:Has K mg "loose_done" iU ["book", "deed"]:=i27.has X G fun _ _ _ _ _ _ us hl=>len2 us hl fun _ _=>rfl
 have h_step_done:Has K mg "step_done" jO ["book", "deed"]:=i28.has X G fun _ _ _ _ _ _ us hl=>len2 us hl fun _ _=>rfl
 have h_alone_done:Has K mg "alone_done" iZ ["book", "deed"]:=i29.has X G fun _ _ _ _ _ _ us hl=>len2 us hl fun _ _=>rfl
 have h_lack_done:Has K mg "lack_done" jU ["book", "deed"]:=i30.has X G fun _ _ _ _ _ _ us hl=>len2 us hl fun _ _=>rfl
 have h_done:Has K mg "done" BK ["book", "deed"]:=i31.has X G fun _ _ _ _ _ _ us hl=>len2 us hl fun _ _=>rfl
 have h_pot:Has K mg "_law_pot" Kh ["_law_script"]:=i32.has X G fun _ _ _ _ _ _ us hl=>len1 us hl fun _=>rfl
 have h_next:Has K mg "_law_next" Cz ["_law_pot_here", "_law_many"]:=i33.has X G fun _ _ _ _ _ _ us hl=>len2 us hl fun _ _=>rfl
 have h_count:Has K mg "_law_count" vL ["_law_pot_here", "_law_most"]:=i34.has X G fun _ _ _ _ _ _ us hl=>len2 us hl fun _ _=>rfl
 have h_names:Has K mg "_law_names" mj ["_law_pot_here"]:=i35.has X G fun _ _ _ _ _ _ us hl=>len1 us hl fun _=>rfl
 have h_taken:Has K mg "_law_taken" vA ["_law_pot_here", "_law_names_here"]:=i36.has X G fun _ _ _ _ _ _ us hl=>len2 us hl fun _ _=>rfl
 have h_text:Has K mg "_law_text" CZ ["_law_pot_here"]:=i37.has X G fun _ _ _ _ _ _ us hl=>len1 us hl fun _=>rfl
 have h_moments:Has K mg "_law_moments" lD ["_law_pot_here", "_law_many"]:=i38.has X G fun _ _ _ _ _ _ us hl=>len2 us hl fun _ _=>rfl
 have h_rich:Has K mg "_law_rich" wD ["_law_pot_here"]:=i39.has X G fun _ _ _ _ _ _ us hl=>len1 us hl fun _=>rfl
 have h_tried:Has K mg "_law_tried" vg ["_law_book", "_law_deed"]:=i40.has X G fun _ _ _ _ _ _ us hl=>len2 us hl fun _ _=>rfl
 have h_one_of:Has K mg "_law_one_of" uU ["_law_pot_here", "_law_some"]:=i41.has X G fun _ _ _ _ _ _ us hl=>len2 us hl fun _ _=>rfl
 have h_cast:Has K mg "_law_cast" pR ["_law_pot_here", "_law_book", "_law_side"]:=i42.has X G fun _ _ _ _ _ _ us hl=>BX us hl fun _ _ _=>rfl
 have h_deed_of:Has K mg "_law_deed_of" nj ["_law_cast_here", "_law_t", "_law_row"]:=i43.has X G fun _ _ _ _ _ _ us hl=>BX us hl fun _ _ _=>rfl
 have h_rows:Has K mg "_law_rows" Ci []:=i44.has X G fun _ _ _ _ _ _ us hl=>(by cases us with
  | nil=>rfl
  | cons _ _=>cases hl)
 have h_link_rows:Has K mg "_law_link_rows" jP []:=i45.has X G fun _ _ _ _ _ _ us hl=>(by cases us with
  | nil=>rfl
  | cons _ _=>cases hl)
 have F46:=En (st:=CW) l46 c46 k46
 have m_len:=PySem.W.mg_none_of X G z_len
 have m_int:=PySem.W.mg_none_of X G z_int
 have m_range:=PySem.W.mg_none_of X G z_range
 have m_isinstance:=PySem.W.mg_none_of X G z_isinstance
 have m_tuple:=PySem.W.mg_none_of X G z_tuple
 have m_bool:=PySem.W.mg_none_of X G z_bool
 have m_str:=PySem.W.mg_none_of X G z_str
 have m_list:=PySem.W.mg_none_of X G z_list
 have m_sorted:=PySem.W.mg_none_of X G z_sorted
 have m_min:=PySem.W.mg_none_of X G z_min
 have m_ValueError:=PySem.W.mg_none_of X G z_ValueError
 have m_sum:=PySem.W.mg_none_of X G z_sum
 have m_any:=PySem.W.mg_none_of X G z_any
 have m_all:=PySem.W.mg_none_of X G z_all
 have q_DOERS:=PySem.W.mg_of X G p_DOERS
 have q_NoPart:=PySem.W.mg_of X G p_NoPart
 have q_NoPlace:=PySem.W.mg_of X G p_NoPlace
 have q_Twice:=PySem.W.mg_of X G p_Twice
 have q_Apart:=PySem.W.mg_of X G p_Apart
 have q_Linked:=PySem.W.mg_of X G p_Linked
 have q_TwainError:=PySem.W.mg_of X G p_TwainError
 have q_NoText:=PySem.W.mg_of X G p_NoText
 have q_NoDeed:=PySem.W.mg_of X G p_NoDeed
 have hMK:=mgk X G
 have kc0:KC K a_TwainError (a7 a_NoPart a_NoPlace a_Twice a_Linked a_Apart a_NoDeed a_NoText) 0:=⟨b0k.ek,b0k.un,b0k.ii,b0k.iv,fun i h1 h2=>match i,h1,h2 with | 0,_,h=>absurd rfl h | 1,_,_=>n01k | 2,_,_=>n02k | 3,_,_=>n03k | 4,_,_=>n04k | 5,_,_=>n05k | 6,_,_=>n06k⟩
 have kc1:KC K a_TwainError (a7 a_NoPart a_NoPlace a_Twice a_Linked a_Apart a_NoDeed a_NoText) 1:=⟨b1k.ek,b1k.un,b1k.ii,b1k.iv,fun i h1 h2=>match i,h1,h2 with | 0,_,_=>n10k | 1,_,h=>absurd rfl h | 2,_,_=>n12k | 3,_,_=>n13k | 4,_,_=>n14k | 5,_,_=>n15k | 6,_,_=>n16k⟩
 have kc2:KC K a_TwainError (a7 a_NoPart a_NoPlace a_Twice a_Linked a_Apart a_NoDeed a_NoText) 2:=⟨b2k.ek,b2k.un,b2k.ii,b2k.iv,fun i h1 h2=>match i,h1,h2 with | 0,_,_=>n20k | 1,_,_=>n21k | 2,_,h=>absurd rfl h | 3,_,_=>n23k | 4,_,_=>n24k | 5,_,_=>n25k | 6,_,_=>n26k⟩
 have kc3:KC K a_TwainError (a7 a_NoPart a_NoPlace a_Twice a_Linked a_Apart a_NoDeed a_NoText) 3:=⟨b3k.ek,b3k.un,b3k.ii,b3k.iv,fun i h1 h2=>match i,h1,h2 with | 0,_,_=>n30k | 1,_,_=>n31k | 2,_,_=>n32k | 3,_,h=>absurd rfl h | 4,_,_=>n34k | 5,_,_=>n35k | 6,_,_=>n36k⟩
 have kc4:KC K a_TwainError (a7 a_NoPart a_NoPlace a_Twice a_Linked a_Apart a_NoDeed a_NoText) 4:=⟨b4k.ek,b4k.un,b4k.ii,b4k.iv,fun i h1 h2=>match i,h1,h2 with | 0,_,_=>n40k | 1,_,_=>n41k | 2,_,_=>n42k | 3,_,_=>n43k | 4,_,h=>absurd rfl h | 5,_,_=>n45k | 6,_,_=>n46k⟩
 have hKC:∀ e,e≤4→KC K a_TwainError (a7 a_NoPart a_NoPlace a_Twice a_Linked a_Apart a_NoDeed a_NoText) e∧(c5 a_NoPart a_NoPlace a_Twice a_Linked a_Apart) e=(a7 a_NoPart a_NoPlace a_Twice a_Linked a_Apart a_NoDeed a_NoText) e:=fun e h=>match e,h with | 0,_=>⟨kc0,rfl⟩ | 1,_=>⟨kc1,rfl⟩ | 2,_=>⟨kc2,rfl⟩ | 3,_=>⟨kc3,rfl⟩ | 4,_=>⟨kc4,rfl⟩
 refine ⟨PySem.W.fnOf "law" "law" (iB CW) (eF CW) (aC CW) .none kV46 dc46 pm46 an46 cd46 ct46,fun s v=>.of_eq rfl,fun base _ _=>?_⟩
 have C_pot:=Li (P:=l.prog) (w:=w) (base:=base) h_pot
 have C_next:=Ig (P:=l.prog) (w:=w) (base:=base) h_next
 have C_count:=GD (P:=l.prog) (w:=w) (base:=base) h_count C_next m_int
 have C_taken:=GJ (P:=l.prog) (w:=w) (base:=base) h_taken C_next m_len
 have C_moments:=Ba (P:=l.prog) (w:=w) (base:=base) h_moments C_next m_int m_range m_tuple
 have C_text:=Ih (P:=l.prog) (w:=w) (base:=base) h_text C_next m_range
 have C_names:=GX (P:=l.prog) (w:=w) (base:=base) h_names C_next m_range
 have C_part_of:=yL (P:=l.prog) (w:=w) (base:=base) h_part_of q_NoPart x_NoPart
 have C_side_of:=Am (P:=l.prog) (w:=w) (base:=base) h_side_of C_part_of
 have C_text_of:=zL (P:=l.prog) (w:=w) (base:=base) h_text_of C_part_of
 have C_link_of:=zM (P:=l.prog) (w:=w) (base:=base) h_link_of C_side_of
 have C_names_of:=wz (P:=l.prog) (w:=w) (base:=base) h_names_of m_tuple
 have C_has_part:=vX (P:=l.prog) (w:=w) (base:=base) h_has_part C_names_of
 have C_replaced:=wQ (P:=l.prog) (w:=w) (base:=base) h_replaced
 have C_parts_with:=qX (P:=l.prog) (w:=w) (base:=base) h_parts_with
 have C_check_behind:=nQ (P:=l.prog) (w:=w) (base:=base) h_check_behind q_NoPlace x_NoPlace C_side_of
 have C_check_new:=uh (P:=l.prog) (w:=w) (base:=base) h_check_new q_Twice x_Twice C_has_part
 have C_isw:=K1 (P:=l.prog) (w:=w) (base:=base) h_isw
 have C_words:=G8 (P:=l.prog) (w:=w) (base:=base) h_words C_isw m_tuple
 have C_is_lacking:=qM (P:=l.prog) (w:=w) (base:=base) h_is_lacking C_link_of
 have C_needed_link:=pU (P:=l.prog) (w:=w) (base:=base) h_needed_link q_Apart x_Apart C_link_of
 have C_relinked:=xg (P:=l.prog) (w:=w) (base:=base) h_relinked
 have C_changed:=xO (P:=l.prog) (w:=w) (base:=base) h_changed C_side_of
 have C_check_joined:=nH (P:=l.prog) (w:=w) (base:=base) h_check_joined q_NoPlace x_NoPlace q_Apart x_Apart C_side_of C_link_of (a_Twice:=a_Twice) (a_Linked:=a_Linked)
 have C_check_linkable:=lC (P:=l.prog) (w:=w) (base:=base) h_check_linkable q_NoPlace x_NoPlace q_Linked x_Linked C_side_of C_is_lacking m_any m_all (a_Twice:=a_Twice) (a_Apart:=a_Apart)
 have C_put_done:=vW (P:=l.prog) (w:=w) (base:=base) h_put_done C_check_behind C_check_new C_replaced C_parts_with (a_Linked:=a_Linked) (a_Apart:=a_Apart)
 have C_take_done:=sW (P:=l.prog) (w:=w) (base:=base) h_take_done C_side_of (a_NoPlace:=a_NoPlace) (a_Twice:=a_Twice) (a_Linked:=a_Linked) (a_Apart:=a_Apart)
 have C_part_done:=uq (P:=l.prog) (w:=w) (base:=base) h_part_done q_NoPlace x_NoPlace C_text_of C_check_new m_len (a_Linked:=a_Linked) (a_Apart:=a_Apart)
 have C_join_done:=tu (P:=l.prog) (w:=w) (base:=base) h_join_done C_check_joined (a_Twice:=a_Twice) (a_Linked:=a_Linked)
 have C_move_done:=tH (P:=l.prog) (w:=w) (base:=base) h_move_done q_NoPlace x_NoPlace C_side_of C_check_behind (a_Twice:=a_Twice) (a_Linked:=a_Linked) (a_Apart:=a_Apart)
 have C_change_done:=oW (P:=l.prog) (w:=w) (base:=base) h_change_done C_changed (a_NoPlace:=a_NoPlace) (a_Twice:=a_Twice) (a_Linked:=a_Linked) (a_Apart:=a_Apart)
 have C_word_done:=tG (P:=l.prog) (w:=w) (base:=base) h_word_done q_NoPlace x_NoPlace C_text_of C_words m_len (a_Twice:=a_Twice) (a_Linked:=a_Linked) (a_Apart:=a_Apart)
 have C_link_done:=tZ (P:=l.prog) (w:=w) (base:=base) h_link_done C_check_linkable (a_Twice:=a_Twice) (a_Apart:=a_Apart)
 have C_loose_done:=qO (P:=l.prog) (w:=w) (base:=base) h_loose_done C_relinked C_needed_link (a_NoPlace:=a_NoPlace) (a_Twice:=a_Twice) (a_Linked:=a_Linked)
 have C_step_done:=tY (P:=l.prog) (w:=w) (base:=base) h_step_done C_needed_link (a_NoPlace:=a_NoPlace) (a_Twice:=a_Twice) (a_Linked:=a_Linked)
 have C_alone_done:=rJ (P:=l.prog) (w:=w) (base:=base) h_alone_done q_Linked x_Linked C_is_lacking (a_NoPlace:=a_NoPlace) (a_Twice:=a_Twice) (a_Apart:=a_Apart)
 have C_lack_done:=uG (P:=l.prog) (w:=w) (base:=base) h_lack_done q_Apart x_Apart C_part_of (a_NoPlace:=a_NoPlace) (a_Twice:=a_Twice) (a_Linked:=a_Linked)
 have C_done:=Iw (P:=l.prog) (w:=w) (base:=base) h_done q_DOERS kt_DOERS hMK C_put_done C_take_done C_part_done C_join_done C_move_done C_change_done C_word_done C_link_done C_loose_done C_step_done C_alone_done C_lack_done
 have C_rich:=IW (P:=l.prog) (w:=w) (base:=base) h_rich C_names C_count C_moments C_text C_taken C_next m_range m_tuple m_sorted
 have C_tried:=Gq (P:=l.prog) (w:=w) (base:=base) h_tried q_TwainError x_TwainError q_Twice q_NoPlace q_NoPart q_Apart q_Linked q_NoText q_NoDeed C_done m_isinstance m_ValueError
 have C_one_of:=Dq (P:=l.prog) (w:=w) (base:=base) h_one_of C_next m_len
 have C_cast:=Jh (P:=l.prog) (w:=w) (base:=base) h_cast C_next C_one_of m_sum m_len
 have C_deed_of:=yq (P:=l.prog) (w:=w) (base:=base) h_deed_of m_tuple
 have C_rows:=Ja (P:=l.prog) (w:=w) (base:=base) h_rows
 have C_link_rows:=tM (P:=l.prog) (w:=w) (base:=base) h_link_rows
 exact JM F46 C_pot C_rich C_moments C_done C_cast C_rows C_link_rows C_tried C_deed_of hKC
theorem walk {l:PySem.W.OpenLaw} {q:Program} {loose:List Str} {XP:(Str→Option Value)→Heap→Prop} {YP:World→Heap→Prop} {d:DefRec} {K:Params→PySem.W.Frag} (hn:l.most=some 63) (hdf:d.params.defaults=[])
  (hY:∀ (w:World) (h:Heap),YP w h→(K w.params).In h)
  (F:∀ (w:World) (mg:Str→Option Value) (fa:Addr) (h:Heap),(K w.params).In h→h.Ns mainGlobals mg→mg d.name=some (.ref fa) →
   ∃ fd:FuncData,(∀ (s:Shared) (u:Value),BindsTo s fd ⟨[u],[]⟩ [("_law_script",u)])∧∀ base:Heap,(K w.params).In base→base.Ns mainGlobals mg→m9 l.prog w (K w.params) mg base CX0 9 fa fd ["_law_script"] (CT (K w.params))) :
  PySem.W.WalkO q loose XP YP l.row.toRowW d [] (fun f vs=>PySem.call f vs) :=
 L2.GK (n:=63) (k:=9) (x:="_law_script") (CX:=fun _=>CX0) (sp:=fun w=>CT (K w.params)) hn (by decide) hdf ⟨rfl,by decide,by decide⟩ hY F (fun _ _ a ns hl _ hS=>⟨a,ns,rfl,hS,hl,fun _=>rfl⟩) fun _ _ _ _ _ z=>z
end Mine
def PySem.W.Fast.tw603034176334366428:Unit:=()
def PySem.W.Fast.tw17338053369007858439:Unit:=()
def PySem.W.Fast.tw13205081821688993058:Unit:=()
def PySem.W.Fast.tw18009231833924979137:Unit:=()
def PySem.W.Fast.tw1553432352816568255:Unit:=()
def PySem.W.Fast.tw549730574478188702:Unit:=()
def PySem.W.Fast.tw6520131492425209349:Unit:=()
def PySem.W.Fast.tw5823884488069116811:Unit:=()
def PySem.W.Fast.tw5928856196929430328:Unit:=()
def PySem.W.Fast.tw10539207944945086229:Unit:=()
def PySem.W.Fast.tw9008526782797668149:Unit:=()
def PySem.W.Fast.tw227034110254208350:Unit:=()
def PySem.W.Fast.tw6974557090490373729:Unit:=()
def PySem.W.Fast.tw15801402764378860559:Unit:=()
def PySem.W.Fast.tw4199383998019608181:Unit:=()
def PySem.W.Fast.tw3499416910084121960:Unit:=()
def PySem.W.Fast.tw7549076514997439185:Unit:=()
def PySem.W.Fast.tw13667970195600745787:Unit:=()
def PySem.W.Fast.tw12323903324960439836:Unit:=()
def PySem.W.Fast.tw11492140834095045236:Unit:=()
def PySem.W.Fast.tw14135609993032046207:Unit:=()
def PySem.W.Fast.tw1576115629185344090:Unit:=()
def PySem.W.Fast.tw10401059301359818529:Unit:=()
def PySem.W.Fast.tw9600367163880354844:Unit:=()
def PySem.W.Fast.tw18363777125477261207:Unit:=()
def PySem.W.Fast.tw253808429155139212:Unit:=()
def PySem.W.Fast.tw1160330278360689139:Unit:=()
def PySem.W.Fast.tw8171995616966227683:Unit:=()
def PySem.W.Fast.tw139365862598838050:Unit:=()
def PySem.W.Fast.tw13544317234368106656:Unit:=()
def PySem.W.Fast.tw4188436498717237295:Unit:=()
def PySem.W.Fast.tw2061634970659784473:Unit:=()
def PySem.W.Fast.tw1187736041476798182:Unit:=()
def PySem.W.Fast.tw15307228159183909127:Unit:=()
def PySem.W.Fast.tw939488532727202856:Unit:=()
def PySem.W.Fast.tw803769887463126113:Unit:=()
def PySem.W.Fast.tw5643686206787284752:Unit:=()
def PySem.W.Fast.tw1366630414267135938:Unit:=()
def PySem.W.Fast.tw17630474437968415180:Unit:=()
def PySem.W.Fast.tw4871320145080015902:Unit:=()
def PySem.W.Fast.tw9194319388933686977:Unit:=()
def PySem.W.Fast.tw3049483715445541076:Unit:=()
def PySem.W.Fast.tw16286986042308343762:Unit:=()
def PySem.W.Fast.tw12555936146380762277:Unit:=()
def PySem.W.Fast.tw16702547696435242452:Unit:=()
def PySem.W.Fast.tw4884042849703657943:Unit:=()
def PySem.W.Fast.tw5357922794521714113:Unit:=()
def PySem.W.Fast.tw15830470503220670843:Unit:=()
def PySem.W.Fast.tw464862048234589562:Unit:=()
def PySem.W.Fast.tw5743829430852902806:Unit:=()
def PySem.W.Fast.tw1947707393002590795:Unit:=()
def PySem.W.Fast.tw5986999446215083884:Unit:=()
def PySem.W.Fast.tw7502004795183689077:Unit:=()
def PySem.W.Fast.tw7412124447422945899:Unit:=()
def PySem.W.Fast.tw4683922759351307853:Unit:=()
def PySem.W.Fast.tw17709538803226451974:Unit:=()
def PySem.W.Fast.tw3101362043642713862:Unit:=()
def PySem.W.Fast.tw10793195212706103430:Unit:=()
def PySem.W.Fast.tw9601278084271909519:Unit:=()
def PySem.W.Fast.tw6181260206103554787:Unit:=()
def PySem.W.Fast.tw631887584195660117:Unit:=()
def PySem.W.Fast.tw14287647800779004434:Unit:=()
def PySem.W.Fast.tw13415792875698559867:Unit:=()
def PySem.W.Fast.tw17880040303264269488:Unit:=()
def PySem.W.Fast.tw7516706868392916439:Unit:=()
def PySem.W.Fast.tw11914133624575493412:Unit:=()
def PySem.W.Fast.tw3698546215307870214:Unit:=()
def PySem.W.Fast.tw1312003749500658820:Unit:=()
def PySem.W.Fast.tw6481912721399987163:Unit:=()
def PySem.W.Fast.tw5873118440433293878:Unit:=()
def PySem.W.Fast.tw12271978098983043654:Unit:=()
def PySem.W.Fast.tw6299611409565251804:Unit:=()
def PySem.W.Fast.tw12277842571637057483:Unit:=()
def PySem.W.Fast.tw15722716788347270613:Unit:=()
def PySem.W.Fast.tw10825886205178456093:Unit:=()
def PySem.W.Fast.tw4662032298780536608:Unit:=()
def PySem.W.Fast.tw10651928967696612943:Unit:=()
def PySem.W.Fast.tw2693274995697371747:Unit:=()
def PySem.W.Fast.tw7426598935336002434:Unit:=()
def PySem.W.Fast.tw14920471940740416282:Unit:=()
def PySem.W.Fast.tw18436604476533365840:Unit:=()
def PySem.W.Fast.tw3796428904987914043:Unit:=()
def PySem.W.Fast.tw10325702583660799459:Unit:=()
def PySem.W.Fast.tw14320473489667028853:Unit:=()
def PySem.W.Fast.tw16171534925555068409:Unit:=()
def PySem.W.Fast.tw4944612761142847472:Unit:=()
def PySem.W.Fast.tw10541113483962475378:Unit:=()
def PySem.W.Fast.tw13487293548887675093:Unit:=()
def PySem.W.Fast.tw6579643706160602803:Unit:=()
def PySem.W.Fast.tw2009451164135460426:Unit:=()
def PySem.W.Fast.tw4820756741308886763:Unit:=()
def PySem.W.Fast.tw2517368332372079471:Unit:=()
def PySem.W.Fast.tw7365647680050595458:Unit:=()
def PySem.W.Fast.tw13739720481906407724:Unit:=()
def PySem.W.Fast.tw11660483801919078446:Unit:=()
def PySem.W.Fast.tw545469593329667043:Unit:=()
def PySem.W.Fast.tw166052283932245126:Unit:=()
def PySem.W.Fast.tw16440634701791551474:Unit:=()
def PySem.W.Fast.tw7342150588867668140:Unit:=()
def PySem.W.Fast.tw3922275287912781320:Unit:=()
def PySem.W.Fast.tw2544436805748212859:Unit:=()
def PySem.W.Fast.tw8652539499163532498:Unit:=()
def PySem.W.Fast.tw1463408154059387513:Unit:=()
def PySem.W.Fast.tw8514538042925548944:Unit:=()
def PySem.W.Fast.tw11539264132694368210:Unit:=()
def PySem.W.Fast.tw17920915317430008875:Unit:=()
def PySem.W.Fast.tw15837150924634897811:Unit:=()
def PySem.W.Fast.tw11699732405274885448:Unit:=()
def PySem.W.Fast.tw3561642476259173709:Unit:=()
def PySem.W.Fast.tw15627365807324152881:Unit:=()
def PySem.W.Fast.tw6788656664304476565:Unit:=()
def PySem.W.Fast.tw13080669528550866769:Unit:=()
def PySem.W.Fast.tw11734634144054510145:Unit:=()
def PySem.W.Fast.tw5575815807417335793:Unit:=()
def PySem.W.Fast.tw3968885260710595570:Unit:=()
def PySem.W.Fast.tw6160531693971633043:Unit:=()
def PySem.W.Fast.tw6371756375820128617:Unit:=()
def PySem.W.Fast.tw14364261324465367786:Unit:=()
def PySem.W.Fast.tw9507897287930902938:Unit:=()
open PySem PySem.W PyProof.Rows
set_option maxRecDepth 100000 in
set_option maxHeartbeats 0 in
theorem PySem.Challenge.cw_twainkeep_k24_first_refusal_holds : PySem.Challenge.rw_twainkeep_k24_first_refusal.Holds := by
 w_on; o_law; k_head; (case hw=>w_witness2)
 k_fill
 refine Mine.walk (l:=PySem.Challenge.rw_twainkeep_k24_first_refusal) rfl rfl (fun w h Y=>PySem.W.kIn_of Y) ?F
 case F =>
  intro w mg fa h KX G hmg
  refine' Mine.all_mk KX G hmg ?i1 ?i2 ?i3 ?i4 ?i5 ?i6 ?i7 ?i8 ?i9 ?i10 ?i11 ?i12 ?i13 ?i14 ?i15 ?i16 ?i17 ?i18 ?i19 ?i20 ?i21 ?i22 ?i23 ?i24 ?i25 ?i26 ?i27 ?i28 ?i29 ?i30 ?i31 ?i32 ?i33 ?i34 ?i35 ?i36 ?i37 ?i38 ?i39 ?i40 ?i41 ?i42 ?i43 ?i44 ?i45 ?a46 ?l46 ?c46 ?k46 ?p_DOERS ?kt_DOERS ?p_NoPart ?p_NoPlace ?p_Twice ?p_Apart ?p_Linked ?p_TwainError ?p_NoText ?p_NoDeed ?x_NoPart ?x_NoPlace ?x_Twice ?x_Apart ?x_Linked ?x_TwainError ?b0k ?n01k ?n02k ?n03k ?n04k ?n05k ?n06k ?b1k ?n10k ?n12k ?n13k ?n14k ?n15k ?n16k ?b2k ?n20k ?n21k ?n23k ?n24k ?n25k ?n26k ?b3k ?n30k ?n31k ?n32k ?n34k ?n35k ?n36k ?b4k ?n40k ?n41k ?n42k ?n43k ?n45k ?n46k ?z_len ?z_int ?z_range ?z_isinstance ?z_tuple ?z_bool ?z_str ?z_list ?z_sorted ?z_min ?z_ValueError ?z_sum ?z_any ?z_all
  case i1 | i2 | i3 | i4 | i5 | i6 | i7 | i8 | i9 | i10 | i11 | i12 | i13 | i14 | i15 | i16 | i17 | i18 | i19 | i20 | i21 | i22 | i23 | i24 | i25 | i26 | i27 | i28 | i29 | i30 | i31 | i32 | i33 | i34 | i35 | i36 | i37 | i38 | i39 | i40 | i41 | i42 | i43 | i44 | i45=>refine' L2.fni ?a ?l ?c ?k; (case a=>k_is); (case l=>k_is); (case c=>k_is); (case k=>k_is)
  case a46 | l46 | c46 | k46 | p_DOERS | p_NoPart | p_NoPlace | p_Twice | p_Apart | p_Linked | p_TwainError | p_NoText | p_NoDeed | z_len | z_int | z_range | z_isinstance | z_tuple | z_bool | z_str | z_list | z_sorted | z_min | z_ValueError | z_sum | z_any | z_all=>k_is
  case kt_DOERS=>(unfold L2.KFT; kernel_rfl)
  case x_NoPart | x_NoPlace | x_Twice | x_Apart | x_Linked | x_TwainError=>first | k_exc | k_is
  case b0k | b1k | b2k | b3k | b4k=>exact ⟨⟨by k_is,by k_is,by k_is,by k_is,by k_is,by k_is⟩,by k_is,by k_is,by k_is⟩
  case n01k | n02k | n03k | n04k | n05k | n06k | n10k | n12k | n13k | n14k | n15k | n16k | n20k | n21k | n23k | n24k | n25k | n26k | n30k | n31k | n32k | n34k | n35k | n36k | n40k | n41k | n42k | n43k | n45k | n46k=>exact L2.wO (by decide) (by k_is) (by k_is) (by k_is)
