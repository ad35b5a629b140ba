import PyProof.Rows.All
import Wide.All
import OpenK.AllK
import Wide.FinOn
import Lean
import PyProof.EqAt
import PyProof.EqKinds
import PyProof.TupleCall
import PyProof.ZipIter
import PyProof.TupleIter
import PyProof.WalksMore
import KE.KWords
import PyProof.MinMaxWalk
import PyProof.SeqI3
import PyProof.MaxThree
import PyProof.AttrMissHeap
import PyProof.DictList
import PyProof.DictIter
import KE.KDictOf
import KE.KDictList
import PyProof.Rows.CallKwBuiltin
import PyProof.Rows.Range3
import PyProof.Rows.StrNews2
import PyProof.StrLawsIdx
import PyProof.StrBlockI
import KE.KRevSl
import PyProof.AutoListH
import PyProof.DictWalks
import PyProof.Draws
import PyProof.EnumMake
import PyProof.NeKinds
import PyProof.Rows.SetFrom
import KE.KSortTup
import PyProof.StrBlock2
import PyProof.DictItems
import KE.KPairComp
import PyProof.Rows.SumAny
import PyProof.ListStr
import PyProof.DictValues
import OpenK.KRaise
import PyProof.StationsW
import PyProof.ExcClass2
import OpenK.KOwn
import PyProof.Rows.FStr
import PyProof.NsDelKeeps
import PyProof.RulesAs
import KE.KIsNot
import PyProof.ExcArgsOwn
import PyProof.ExcAttrAll.ValueError
import KE.KLam
import PyProof.ListRange
import PyProof.TupleOfSeq
import PyProof.SetRoads
import PyProof.MeetsSeq2
import PyProof.CallStr
import PySem.Challenge.RW_twainkeep_k57_shown_of_anything
set_option Elab.async false
set_option linter.all false
set_option maxRecDepth 100000
namespace L2
open PySem PySem.Spec PyProof.Rows
abbrev Key:=Sum Int Str
def uT:Key→Value→Bool
 | .inl k,v=>Value.isInt k v
 | .inr x,v=>Value.isStrOf x v
def Nz (w:World):Key→Int
 | .inl k=>hashInt k
 | .inr x=>hashStr w x
theorem cB:∀ {k:Key} {v:Value},uT k v=true→(∃ i t,k=Sum.inl i∧v=Value.int i t)∨(∃ x t,k=Sum.inr x∧v=Value.str x t)
 | .inl i,v,h=>by
  obtain ⟨t,e⟩:=Value.isInt_shape (k:=i) (v:=v) h
  exact .inl ⟨i,t,rfl,e⟩
 | .inr x,v,h=>by
  obtain ⟨t,e⟩:=Value.isStrOf_shape (x:=x) (v:=v) h
  exact .inr ⟨x,t,rfl,e⟩
theorem vV (i:Int) (t:Tok):uT (.inl i) (.int i t)=true:=by simp [uT,Value.isInt]
theorem wB (x:Str) (t:Tok):uT (.inr x) (.str x t)=true:=by simp [uT,Value.isStrOf]
theorem Jd (a b:Int):decide ((Sum.inl a:Key)=Sum.inl b)=(a == b):=by
 by_cases e:a=b
 ·subst e; simp
 ·have h:¬ (Sum.inl a:Key)=Sum.inl b:=fun q=>e (Sum.inl.inj q)
  rw [decide_eq_false h]
  exact (beq_eq_false_iff_ne.mpr e).symm
theorem Ik (a b:Str):decide ((Sum.inr a:Key)=Sum.inr b)=decide (a=b):=by
 by_cases e:a=b
 ·subst e; simp
 ·have h:¬ (Sum.inr a:Key)=Sum.inr b:=fun q=>e (Sum.inr.inj q)
  rw [decide_eq_false h,decide_eq_false e]
theorem Il (a:Int) (b:Str):decide ((Sum.inl a:Key)=Sum.inr b)=false:=decide_eq_false (fun q=>nomatch q)
theorem HY (a:Str) (b:Int):decide ((Sum.inr a:Key)=Sum.inl b)=false:=decide_eq_false (fun q=>nomatch q)
def dU (prog:Program) (w:World):PySem.KeyKind prog w Key where
 is:=uT
 hash:=Nz w
 inj:=fun v a b ha hb=>by
  rcases cB ha with ⟨i,t,rfl,rfl⟩ | ⟨x,t,rfl,rfl⟩
  ·rcases cB hb with ⟨j,u,rfl,e⟩ | ⟨y,u,rfl,e⟩
   ·injection e with e1 _; rw [e1]
   ·exact nomatch e
  ·rcases cB hb with ⟨j,u,rfl,e⟩ | ⟨y,u,rfl,e⟩
   ·exact nomatch e
   ·injection e with e1 _; rw [e1]
 byValue:=fun k v h=>by
  rcases cB h with ⟨i,t,rfl,rfl⟩ | ⟨x,t,rfl,rfl⟩ <;> rfl
 pyHash:=fun hv h=>by
  rcases cB hv with ⟨i,t,rfl,rfl⟩ | ⟨x,t,rfl,rfl⟩
  ·exact wpAny_pyHash_int h
  ·exact wpAny_pyHash_str h
 eqBool:=fun hu hv h=>by
  rcases cB hu with ⟨i,t,rfl,rfl⟩ | ⟨x,t,rfl,rfl⟩
  ·rcases cB hv with ⟨j,u,rfl,rfl⟩ | ⟨y,u,rfl,rfl⟩
   ·rw [Jd] at h; exact wpAny_eqBool_int h
   ·rw [Il] at h; exact SeqAt.EqAt.int_str i t y u _ _ _ _ h
  ·rcases cB hv with ⟨j,u,rfl,rfl⟩ | ⟨y,u,rfl,rfl⟩
   ·rw [HY] at h; exact SeqAt.EqAt.str_int x t j u _ _ _ _ h
   ·rw [Ik] at h; exact wpAny_eqBool_str h
 «strs»:=fun k x t v h=>by
  rcases cB h with ⟨i,u,rfl,e⟩ | ⟨y,u,rfl,e⟩
  ·exact nomatch e
  ·injection e with e1 _
   subst e1
   cases v <;> rfl
theorem rZ (prog:Program) (w:World) (i:Int) (t:Tok):(dU prog w).is (.inl i) (.int i t)=true:=vV i t
theorem rT (prog:Program) (w:World) (x:Str) (t:Tok):(dU prog w).is (.inr x) (.str x t)=true:=wB x t
end L2
namespace L2
open PySem PySem.Spec PyProof.Rows
inductive V where
 | non | bl (b:Bool) | int (i:Int) | str (x:Str) | byt (b:Array UInt8) | flt (b:UInt64) | ref (a:Addr) | ty (n:String)
 deriving DecidableEq
def RelV:V→Value→Prop
 | .non,u=>u=Value.none
 | .bl b,u=>u=Value.bool b
 | .int i,u=>∃ t,u=Value.int i t
 | .str x,u=>∃ t,u=Value.str x t
 | .byt b,u=>∃ t,u=Value.bytes b t
 | .flt b,u=>∃ t,u=Value.float b t
 | .ref a,u=>u=Value.ref a
 | .ty n,u=>u=Value.type n
abbrev Vals:List V→List Value→Prop:=Paired RelV
theorem Vals.length {xs:List V} {us:List Value} (r:Vals xs us):xs.length=us.length:=Paired.length r
theorem Vals.get:∀ {xs:List V} {us:List Value} {i:Nat} {x:V},Vals xs us→xs[i]?=some x→∃ u,us[i]?=some u∧RelV x u
 | _,_,_,_,.nil,e=>by simp at e
 | _,_,0,_,.cons r _,e=>by simp at e; subst e; exact ⟨_,rfl,r⟩
 | _,_,i+1,x,.cons _ t,e=>by
  obtain ⟨u,h1,h2⟩:=Vals.get (i:=i) (x:=x) t (by simpa using e)
  exact ⟨u,by simpa using h1,h2⟩
theorem Vals.set {x:V} {u:Value} (r:RelV x u):∀ {xs:List V} {us:List Value} (i:Nat),Vals xs us→Vals (xs.set i x) (us.set i u)
 | _,_,_,.nil=>.nil
 | _,_,0,.cons _ t=>.cons r t
 | _,_,i+1,.cons q t=>.cons q (Vals.set r i t)
theorem Vals.append:∀ {xs ys:List V} {us ws:List Value},Vals xs us→Vals ys ws→Vals (xs++ys) (us++ws)
 | _,_,_,_,.nil,s=>s
 | _,_,_,_,.cons r t,s=>.cons r (Vals.append t s)
theorem Vals.take:∀ {xs:List V} {us:List Value} (n:Nat),Vals xs us→Vals (xs.take n) (us.take n)
 | _,_,0,_=>.nil
 | _,_,_+1,.nil=>.nil
 | _,_,n+1,.cons r t=>.cons r (Vals.take n t)
theorem Vals.drop:∀ {xs:List V} {us:List Value} (n:Nat),Vals xs us→Vals (xs.drop n) (us.drop n)
 | _,_,0,r=>r
 | _,_,_+1,.nil=>.nil
 | _,_,n+1,.cons _ t=>Vals.drop n t
def vh:Option V→Option Value→Prop
 | some v,some u=>RelV v u
 | none,none=>True
 | _,_=>False
def KV {κ:Type}:List (κ × V)→List (κ × Value)→Prop:=Paired fun (p:κ × V) (q:κ × Value)=>p.1=q.1∧RelV p.2 q.2
def kV:Key→V
 | .inl i=>.int i
 | .inr x=>.str x
inductive HO where
 | lst (xs:List V)
 | tup (xs:List V)
 | dK (kvs:List (Key × V)) | dT (kvs:List (List Key × V))
 | set (S:Int→Bool) (n:Nat)
 | ins (C dx:Addr) (fs:List (Str × V))
 | own (x:Addr)
 | xd (fs:List (Str × V))
 | met (f x:Addr)
 | rng (lo hi:Int)
 | frz (o:Obj) (u:HO)
 | tbl (ps:Array Value)
 | ext (φ:Heap→Prop)
abbrev Hp:=Addr→Option HO
def upd (H:Hp) (a:Addr) (o:HO):Hp:=fun b=>if b=a then some o else H b
theorem ak {H:Hp} {a:Addr} {o:HO}:upd H a o a=some o:=by unfold upd; rw [if_pos rfl]
theorem aM {H:Hp} {a b:Addr} {o:HO} (h:b≠a):upd H a o b=H b:=by unfold upd; rw [if_neg h]
theorem yW {H:Hp} {a:Addr} {o u:HO}:upd (upd H a o) a u=upd H a u:=by
 funext b; unfold upd; split <;> rfl
theorem lZ {H:Hp} {a b:Addr} {o u:HO} (h:H a=some o) (h':H b=some u) (d:o≠u):a≠b:=by
 intro e; subst e; rw [h] at h'; exact d (Option.some.inj h')
theorem aF {H:Hp} {a b:Addr} {o:HO} (h:H a=some o) (h':H b=none):a≠b:=by
 intro e; subst e; rw [h] at h'; cases h'
section
variable (P:Program) (w:World)
def cL (H:Hp) (h:Heap) (a:Addr):HO→Prop
 | .lst xs=>xs.length≤sizeLine∧∃ (its:List Value) (n:Nat),Vals xs its∧h.get? a=some { cls:=.type "list",data:=.seq its.toArray n }
 | .tup xs=>xs.length≤sizeLine∧∃ its:List Value,Vals xs its∧IsTup h a its.toArray
 | .dK kvs=>kvs.length≤sizeLine∧(a == sysModules)=false∧∃ vs,KV kvs vs∧h.DictOf (dU P w) a vs
 | .dT kvs=>kvs.length≤sizeLine∧(a == sysModules)=false∧∃ xs:List (List Key × Addr × Value),
   Paired (fun (p:List Key × V) (q:List Key × Addr × Value)=>p.1=q.1∧H q.2.1=some (.tup (p.1.map kV))∧RelV p.2 q.2.2) kvs xs ∧
   ∃ o es ep,h.get? a=some o∧o.ExactDict∧o.data=.dict es ep∧es.toList=xs.map (entryOfKey (tupleKind (dU P w)))∧(xs.map (·.1)).Nodup
 | .set S n=>h.SetOf (intKind P w) a S n
 | .ins C dx fs=>H dx=some (.own a)∧fs.length≤1000∧dx≠a∧h.get? a=some (PySem.W.instObj C dx) ∧
   ∃ mA,h.Ns1 dx mA∧(∀ f,vh (fs.lookup f) (mA f))∧PySem.Within mA (fs.map (·.1))
 | .own _=>∃ o,h.get? a=some o
 | .xd fs=>∃ mA,h.Ns1 a mA∧∀ f,vh (fs.lookup f) (mA f)
 | .rng lo hi=>∃ t u v,h.get? a=some { cls:=.type "range",data:=.fields #[.int lo t,.int hi u,.int 1 v] }
 | .frz o u=>h.get? a=some o∧cL H h a u
 | .tbl ps=>h.get? a=some { cls:=.none,data:=.fields ps }
 | .met f x=>h.get? a=some (PySem.W.methodObj (.ref f) (.ref x))
 | .ext φ=>φ h∧(∃ o,h.get? a=some o)∧∀ h1 h2:Heap,φ h1→(∀ o,h1.get? a=some o→h2.get? a=some o)→φ h2
def HOk (H:Hp) (h:Heap):Prop:=∀ a o,H a=some o→cL P w H h a o
end
section
variable {P:Program} {w:World} {H H':Hp} {h h':Heap} {a:Addr} {o:HO}
theorem cL.lt (x:cL P w H h a o):a < h.objs.size:=by
 cases o with
 | lst xs=>obtain ⟨_,_,_,_,e⟩:=x; exact Heap.lt_size e
 | tup xs=>obtain ⟨_,_,_,p⟩:=x; exact p.lt
 | dK kvs=>obtain ⟨_,_,_,_,o,_,_,e,_⟩:=x; exact Heap.lt_size e
 | dT kvs=>obtain ⟨_,_,_,_,o,_,_,e,_⟩:=x; exact Heap.lt_size e
 | set S n=>obtain ⟨o,_,_,_,e,_⟩:=x; exact Heap.lt_size e
 | ins C dx fs=>obtain ⟨_,_,_,e,_⟩:=x; exact Heap.lt_size e
 | own y=>obtain ⟨_,e⟩:=x; exact Heap.lt_size e
 | xd fs=>obtain ⟨_,⟨_,_,_,e,_⟩,_⟩:=x; exact Heap.lt_size e
 | rng lo hi=>obtain ⟨_,_,_,e⟩:=x; exact Heap.lt_size e
 | frz ob u=>obtain ⟨e,_⟩:=x; exact Heap.lt_size e
 | tbl ps=>exact Heap.lt_size (show h.get? a=some _ from x)
 | met f y=>exact Heap.lt_size (show h.get? a=some _ from x)
 | ext φ=>obtain ⟨_,⟨_,e⟩,_⟩:=x; exact Heap.lt_size e
theorem Paired.mapP {α β:Type} {F G:α→β→Prop}:∀ {l₁:List α} {l₂:List β},Paired F l₁ l₂→(∀ a b,F a b→G a b)→Paired G l₁ l₂
 | _,_,.nil,_=>.nil
 | _,_,.cons r t,f=>.cons (f _ _ r) (Paired.mapP t f)
theorem cL.stay (x:cL P w H h a o) (k:∀ b u,(b=a∨H b=some (.own a))→h.get? b=some u→h'.get? b=some u)
  (ho:∀ b,H b=some (.own a)→H' b=some (.own a)) (ht:∀ b xs,H b=some (.tup xs)→H' b=some (.tup xs)):cL P w H' h' a o:=by
 induction o with
 | lst xs=>obtain ⟨z,its,n,r,e⟩:=x; exact ⟨z,its,n,r,k _ _ (.inl rfl) e⟩
 | tup xs=>obtain ⟨z,its,r,ob,e,c⟩:=x; exact ⟨z,its,r,ob,k _ _ (.inl rfl) e,c⟩
 | dK kvs=>obtain ⟨z,y,vs,r,ob,es,ep,e,c⟩:=x; exact ⟨z,y,vs,r,ob,es,ep,k _ _ (.inl rfl) e,c⟩
 | dT kvs =>
  obtain ⟨z,y,xs,r,ob,es,ep,e,c⟩:=x
  exact ⟨z,y,xs,Paired.mapP r fun p q z=>⟨z.1,ht _ _ z.2.1,z.2.2⟩,ob,es,ep,k _ _ (.inl rfl) e,c⟩
 | set S n=>obtain ⟨ob,es,ep,t,e,c⟩:=x; exact ⟨ob,es,ep,t,k _ _ (.inl rfl) e,c⟩
 | ins C dx fs =>
  obtain ⟨d,z,ne,e,mA,⟨od,es,ep,e2,c⟩,r⟩:=x
  exact ⟨ho _ d,z,ne,k _ _ (.inl rfl) e,mA,⟨od,es,ep,k _ _ (.inr d) e2,c⟩,r⟩
 | own y=>obtain ⟨ob,e⟩:=x; exact ⟨ob,k _ _ (.inl rfl) e⟩
 | xd fs=>obtain ⟨mA,⟨od,es,ep,e,c⟩,r⟩:=x; exact ⟨mA,⟨od,es,ep,k _ _ (.inl rfl) e,c⟩,r⟩
 | rng lo hi=>obtain ⟨t,u,v,e⟩:=x; exact ⟨t,u,v,k _ _ (.inl rfl) e⟩
 | frz ob u ih=>obtain ⟨e,q⟩:=x; exact ⟨k _ _ (.inl rfl) e,ih q⟩
 | tbl ps =>
  have e:h.get? a=some { cls:=.none,data:=.fields ps }:=x
  show h'.get? a=some { cls:=.none,data:=.fields ps }
  exact k a _ (.inl rfl) e
 | met f y =>
  have e:h.get? a=some (PySem.W.methodObj (.ref f) (.ref y)):=x
  show h'.get? a=some (PySem.W.methodObj (.ref f) (.ref y))
  exact k a _ (.inl rfl) e
 | ext φ=>obtain ⟨p,⟨o,e⟩,st⟩:=x; exact ⟨st _ _ p fun o q=>k _ _ (.inl rfl) q,⟨o,k _ _ (.inl rfl) e⟩,st⟩
theorem HOk.lt (x:HOk P w H h) (e:H a=some o):a < h.objs.size:=(x a o e).lt
theorem HOk.fresh (x:HOk P w H h) (e:h.objs.size≤a):H a=none:=by
 cases q:H a with
 | none=>rfl
 | some u=>exact absurd (Nat.lt_of_lt_of_le (x.lt q) e) (Nat.lt_irrefl _)
theorem HOk.kept (x:HOk P w H h) (k:∀ b u,h.get? b=some u→h'.get? b=some u):HOk P w H h':=fun a o e =>
 (x a o e).stay (fun b u _ q=>k b u q) (fun _ q=>q) fun _ _ q=>q
theorem HOk.laid (x:HOk P w H h) (k:∀ b u,h.get? b=some u→h'.get? b=some u) (hp:h.objs.size≤a) (new:cL P w (upd H a o) h' a o):HOk P w (upd H a o) h':=fun b u e=>by
 have hn:=x.fresh hp
 by_cases hb:b=a
 ·subst hb; rw [ak] at e; cases e; exact new
 ·rw [aM hb] at e
  exact (x b u e).stay (fun c v _ q=>k c v q) (fun c q=>by rw [aM (aF q hn)]; exact q) fun c xs q=>by rw [aM (aF q hn)]; exact q
end
def Rd (H:Hp) (a:Addr) (u:HO):Prop:=H a=some u∨∃ o,H a=some (.frz o u)
theorem Rd.ok {P:Program} {w:World} {H:Hp} {h:Heap} {a:Addr} {u:HO} (r:Rd H a u) (x:HOk P w H h):cL P w H h a u:=by
 rcases r with r | ⟨o,r⟩
 ·exact x a u r
 ·obtain ⟨_,q⟩:=x a _ r
  exact q
def Mut:Option HO→Prop
 | some (.lst _)=>True
 | some (.dK _)=>True
 | some (.dT _)=>True
 | some (.set _ _)=>True
 | some (.ins _ _ _)=>True
 | some (.ext _)=>True
 | _=>False
section
variable {P:Program} {w:World} {H:Hp} {h h':Heap} {x e:Addr} {o':HO}
theorem HOk.write (ok:HOk P w H h) (mu:Mut (H x)) (he:e=x∨H e=some (.own x)) (k:∀ b u,b≠e→h.get? b=some u→h'.get? b=some u) (heo:∃ u,h'.get? e=some u)
  (new:cL P w (upd H x o') h' x o'):HOk P w (upd H x o') h':=fun b u q=>by
 have nown:∀ c y,H c=some (.own y)→c≠x:=fun c y r z=>by subst z; rw [r] at mu; exact mu
 have ntup:∀ c xs,H c=some (.tup xs)→c≠x:=fun c xs r z=>by subst z; rw [r] at mu; exact mu
 by_cases hb:b=x
 ·subst hb; rw [ak] at q; cases q; exact new
 ·rw [aM hb] at q
  by_cases hbe:b=e
  ·have q':H b=some (.own x):=by
    rcases he with z | z
    ·exact absurd (hbe.trans z) hb
    ·rw [hbe]; exact z
   rw [q] at q'; cases q'
   obtain ⟨v,hv⟩:=heo
   exact ⟨v,by rw [hbe]; exact hv⟩
  ·refine (ok b u q).stay (fun c v hc r=>k c v ?_ r) (fun c r=>by rw [aM (nown c b r)]; exact r) fun c xs r=>by rw [aM (ntup c xs r)]; exact r
   rcases hc with rfl | hc
   ·exact hbe
   ·rintro rfl
    rcases he with z | z
    ·exact nown c b hc z
    ·rw [hc] at z; cases z; exact hb rfl
end
structure Un (fs ex:List Addr) (H H':Hp) (h h':Heap):Prop where
 keep:∀ b o,h.get? b=some o→H b=none→b ∉ fs→b ∉ ex→h'.get? b=some o
 slot:∀ b o,h.get? b=some o→H b=none→b∈fs→b ∉ ex→∃ sl,h'.get? b=some { o with slots:=sl }
 free:∀ b o,h.get? b=some o→H b=none→b ∉ ex→H' b=none
 there:∀ b o,h.get? b=some o→b ∉ ex→∃ o',h'.get? b=some o'
 tups:∀ b xs,H b=some (.tup xs)→H' b=some (.tup xs)
 frzs:∀ b o u,H b=some (.frz o u)→H' b=some (.frz o u)
 tbls:∀ b ps,H b=some (.tbl ps)→∃ more,H' b=some (.tbl (ps++more))
section
variable {fs fs' ex ex':List Addr} {H H1 H2:Hp} {h h1 h2 h':Heap} {a x e:Addr} {o:HO}
theorem Un.any (u:Un fs ex H H1 h h1) {b:Addr} {ob:Obj} (q:h.get? b=some ob) (n:H b=none) (hx:b ∉ ex):∃ sl,h1.get? b=some { ob with slots:=sl }:=by
 by_cases hb:b∈fs
 ·exact u.slot b ob q n hb hx
 ·exact ⟨ob.slots,u.keep b ob q n hb hx⟩
theorem Un.kept (k:∀ b u,h.get? b=some u→h'.get? b=some u):Un fs ex H H h h' :=
 ⟨fun b ob q _ _ _=>k b ob q,fun b ob q _ _ _=>⟨ob.slots,k b ob q⟩,fun _ _ _ n _=>n,fun b ob q _=>⟨ob,k b ob q⟩,fun _ _ q=>q,fun _ _ _ q=>q,fun _ ps q=>⟨#[],by rw [q]; simp⟩⟩
theorem Un.refl:Un fs ex H H h h:=Un.kept fun _ _ q=>q
theorem Un.laid (k:∀ b u,h.get? b=some u→h'.get? b=some u) (hp:h.objs.size≤a) (hn:H a=none):Un fs ex H (upd H a o) h h' where
 keep:=fun b u q _ _ _=>k b u q
 slot:=fun b u q _ _ _=>⟨u.slots,k b u q⟩
 free:=fun b u q n _=>by rw [aM (Nat.ne_of_lt (Nat.lt_of_lt_of_le (Heap.lt_size q) hp))]; exact n
 there:=fun b u q _=>⟨u,k b u q⟩
 tups:=fun b xs q=>by rw [aM (aF q hn)]; exact q
 frzs:=fun b u xs q=>by rw [aM (aF q hn)]; exact q
 tbls:=fun b ps q=>⟨#[],by rw [aM (aF q hn),q]; simp⟩
theorem Un.write (mu:Mut (H x)) (he:e=x∨H e=some (.own x)) (k:∀ b u,b≠e→h.get? b=some u→h'.get? b=some u) (heo:∃ u,h'.get? e=some u):Un fs ex H (upd H x o) h h':=by
 have hx:∀ b,H b=none→b≠x:=fun b n z=>by subst z; rw [n] at mu; exact mu
 have hb:∀ b,H b=none→b≠e:=fun b n z=>by
  subst z
  rcases he with r | r
  ·exact hx b n r
  ·rw [n] at r; cases r
 have hm:∀ b u,H b=some u→¬ Mut (some u)→b≠x:=fun b u q nm z=>by subst z; rw [q] at mu; exact nm mu
 refine ⟨fun b u q n _ _=>k b u (hb b n) q,fun b u q n _ _=>⟨u.slots,k b u (hb b n) q⟩,fun b u q n _=>by rw [aM (hx b n)]; exact n,fun b u q _=>?_,
  fun b xs q=>by rw [aM (hm b _ q fun z=>z)]; exact q,fun b u xs q=>by rw [aM (hm b _ q fun z=>z)]; exact q,fun b ps q=>⟨#[],by rw [aM (hm b _ q fun z=>z),q]; simp⟩⟩
 by_cases hbe:b=e
 ·subst hbe; exact heo
 ·exact ⟨u,k b u hbe q⟩
end
def trk (h:Heap) (H:Hp):List Addr:=(List.range h.objs.size).filter fun a=>(H a).isSome
def CN (h:Heap) (H:Hp):Heap:=PySem.W.hideAll h (trk h H)
theorem vX (h:Heap) (H:Hp):(CN h H).objs.size=h.objs.size:=PySem.W.hideAll_size _ _
theorem Ba {h:Heap} {H:Hp} {b:Addr} {o:Obj} (e:h.get? b=some o) (n:H b=none):(CN h H).get? b=some o :=
 PySem.W.hideAll_get _ e fun hm=>by
  have q:(H b).isSome=true:=(List.mem_filter.mp hm).2
  rw [n] at q; simp at q
theorem Gq {h:Heap} {H:Hp} {b:Addr} {o:Obj} (e:(CN h H).get? b=some o):h.get? b=some o∧H b=none:=by
 have e':h.get? b=some o:=PySem.W.of_hideAll (trk h H) e
 refine ⟨e',?_⟩
 cases q:H b with
 | none=>rfl
 | some x =>
  have hm:b∈trk h H:=List.mem_filter.mpr ⟨List.mem_range.mpr (Heap.lt_size e'),by simp [q]⟩
  have z:(CN h H).get? b=none:=PySem.W.hideAll_none (trk h H) hm
  rw [z] at e; cases e
def GZ (g h:Heap) (L:Addr):List (Addr × Obj):=(List.range h.objs.size).filterMap fun a=>if a=L∨(g.get? a).isSome=true then none else (h.get? a).map fun o=>(a,o)
def rest (g h:Heap) (L d:Addr):List (Addr × Obj):=(GZ g h L).filter fun p=>decide (p.1≠d)
end L2
namespace L2
open PySem PySem.Spec PyProof.Rows
structure Mod (K:PySem.W.Frag) (mg:Str→Option Value) (base:Heap):Prop where
 kin:K.In base
 glob:base.Ns mainGlobals mg
 blt:∃ mb,base.Ns builtinsNs mb∧∀ x:Str,x ≠ "__name__"→mb x=bootBuiltins x
 nolimit:base.NoLimit
structure Cx where
 prog:Program
 w:World
 K:PySem.W.Frag
 mg:Str→Option Value
 base:Heap
 A:Around
 N:List Str
 s₀:Shared
 H₀:Hp
 env:Env
 outer:List Env
 stack:List Env
 ex:List Addr
 fn:Str→Bool
 calm:Bool
 pn:List (Addr × Obj)
 xe:Value→Shared→Prop
def frs (l:List Env):List Addr:=l.filterMap (·.frame)
abbrev Cx.fs (X:Cx):List Addr:=frs X.outer
def Vis (sc:Scope) (x:Str):Prop:=sc.names.lookup x=some .local∨sc.names.lookup x=some .cell∨sc.names.lookup x=some .free
def Loc (sc:Scope) (x:Str):Prop:=sc.names.lookup x=some .local∨sc.names.lookup x=some .cell
def Look (env:Env) (h:Heap) (m:Str→Option Value) (x:Str) (u:Value):Prop :=
 (env.kindOf x=some .local∧m x=some u)∨((env.kindOf x=some .cell∨env.kindOf x=some .free)∧∃ c,env.cells.lookup x=some c∧h.IsCell c (some u))
structure Cx.Ok (X:Cx):Prop where
 mod:Mod X.K X.mg X.base
 kind:X.env.scope.kind=.function
 glob:X.env.globals=mainGlobals
 blt:X.env.builtins=builtinsNs
 above:X.s₀.heap.objs.size≤X.env.locals
 inj:∀ x y c,X.env.cells.lookup x=some c→X.env.cells.lookup y=some c→x=y
 has:∀ x,(X.env.kindOf x=some .cell∨X.env.kindOf x=some .free)→∃ c,X.env.cells.lookup x=some c
 cab:∀ x c,X.fn x=true→X.env.cells.lookup x=some c→X.s₀.heap.objs.size≤c
 hd:X.calm=true→X.A.handled=none
 frames:X.A.frames=some X.stack
 stk:X.stack=X.outer∨(X.stack=X.env :: X.outer∧X.env.frame=some X.env.locals)
 exf:∀ b∈X.ex,b≠X.env.locals∧∀ x c,X.env.cells.lookup x=some c→c≠b
 bs:∀ b o,X.base.get? b=some o→X.s₀.heap.get? b=some o∧X.H₀ b=none
 bsz:X.base.objs.size≤X.s₀.heap.objs.size
 noex:∀ b o,X.base.get? b=some o→b ∉ X.ex
 exfs:∀ b∈X.ex,b ∉ X.fs
 funs:X.s₀.heap.FunFrames X.base X.outer
 frf:∀ b∈X.fs,X.H₀ b=none
structure Inv (X:Cx) (pins:List (Addr × Obj)) (σ:List (Option V)) (H:Hp) (s:Shared):Prop where
 ok:X.Ok
 os:s.os=X.s₀.os
 bare:AllBare s.gens
 base:Un X.fs X.ex X.H₀ H X.s₀.heap s.heap
 loc:∃ m,s.heap.Ns X.env.locals m∧∀ (i:Nat) (x:Str) (v:V),X.N[i]?=some x→σ[i]?=some (some v)→Vis X.env.scope x→∃ u,RelV v u∧Look X.env s.heap m x u
 cell:∀ x c,X.env.cells.lookup x=some c→∃ v,s.heap.IsCell c v
 free:H X.env.locals=none
 freeC:∀ x c,X.env.cells.lookup x=some c→H c=none
 pin:∀ p∈X.pn++pins,s.heap.get? p.1=some p.2∧H p.1=none∧p.1≠X.env.locals∧p.1 ∉ X.fs∧∀ v,p.2.data≠.cell v
 hok:HOk X.prog X.w H s.heap
 len:σ.length=X.N.length
section
variable {X:Cx} {pins:List (Addr × Obj)} {σ:List (Option V)} {H H':Hp} {s:Shared} {h':Heap}
theorem Cx.Ok.nofr (ok:X.Ok) {b:Addr} {o:Obj} (e:X.base.get? b=some o):b ∉ X.fs:=fun hb=>by
 have:=(ok.funs.mem hb).1
 rw [e] at this; cases this
theorem Inv.bs (I:Inv X pins σ H s):∀ b o,X.base.get? b=some o→s.heap.get? b=some o∧H b=none:=fun b o e =>
 ⟨I.base.keep b o (I.ok.bs b o e).1 (I.ok.bs b o e).2 (I.ok.nofr e) (I.ok.noex b o e),I.base.free b o (I.ok.bs b o e).1 (I.ok.bs b o e).2 (I.ok.noex b o e)⟩
theorem Inv.bk (I:Inv X pins σ H s):∀ b o,X.base.get? b=some o→s.heap.get? b=some o:=fun b o e=>(I.bs b o e).1
theorem Inv.mod (I:Inv X pins σ H s):Mod X.K X.mg X.base:=I.ok.mod
theorem Inv.kIn (I:Inv X pins σ H s):X.K.In s.heap:=I.ok.mod.kin.keeps I.bk
theorem Inv.nolimit (I:Inv X pins σ H s):s.heap.NoLimit:=I.ok.mod.nolimit.keeps I.bk
theorem Inv.fr (I:Inv X pins σ H s):∃ m,Fr X.base X.env.locals s.heap m :=
 let ⟨m,hn,_⟩:=I.loc
 ⟨m,hn,I.bk,Nat.le_trans I.ok.bsz I.ok.above⟩
theorem Inv.lt (I:Inv X pins σ H s):X.env.locals < s.heap.objs.size:=let ⟨_,hn,_⟩:=I.loc; hn.lt
theorem Inv.sz (I:Inv X pins σ H s):X.s₀.heap.objs.size≤s.heap.objs.size:=Nat.le_trans I.ok.above (Nat.le_of_lt I.lt)
theorem Inv.nofs (I:Inv X pins σ H s) {a:Addr} (h:s.heap.objs.size≤a):a ∉ X.fs:=fun hb=>by
 obtain ⟨_,o,ho,_⟩:=I.ok.funs.mem hb
 exact absurd (Nat.lt_of_lt_of_le (Heap.lt_size ho) (Nat.le_trans I.sz h)) (Nat.lt_irrefl _)
theorem Inv.cne (I:Inv X pins σ H s):∀ x c,X.env.cells.lookup x=some c→c≠X.env.locals:=fun x c e z=>by
 obtain ⟨v,o,ho,hd⟩:=I.cell x c e
 obtain ⟨m,⟨o',es,ep,ho',hd',_⟩,_⟩:=I.loc
 rw [z,ho'] at ho; cases ho; rw [hd'] at hd; cases hd
theorem Inv.funs (I:Inv X pins σ H s):s.heap.FunFrames X.base X.outer:=by
 have all:∀ (l:List Env),(∀ b∈frs l,b∈X.fs)→X.s₀.heap.FunFrames X.base l→s.heap.FunFrames X.base l:=by
  intro l
  induction l with
  | nil=>intro _ _; trivial
  | cons env r ih =>
   intro hs hl
   obtain ⟨hk,⟨L,o,hf,hn,ho,hd⟩,hr⟩:=hl
   have hL:L∈X.fs:=hs L (by unfold frs; rw [List.filterMap_cons,hf]; exact List.mem_cons_self)
   obtain ⟨sl,e⟩:=I.base.slot L o ho (I.ok.frf L hL) hL fun z=>I.ok.exfs L z hL
   exact ⟨hk,⟨L,_,hf,hn,e,hd⟩,ih (fun b hb=>hs b (by unfold frs; rw [List.filterMap_cons,hf]; exact List.mem_cons_of_mem _ hb)) hr⟩
 exact all X.outer (fun _ hb=>hb) I.ok.funs
theorem Inv.stack (I:Inv X pins σ H s):s.heap.FunFrames X.base X.stack:=by
 rcases I.ok.stk with e | ⟨e,hf⟩
 ·rw [e]; exact I.funs
 ·rw [e]
  obtain ⟨m,hn,_⟩:=I.loc
  refine .cons (by rw [I.ok.kind]; decide) hf hn ?_ I.funs
  exact Heap.get?_none_of_le (Nat.le_trans I.ok.bsz I.ok.above)
theorem Inv.stkSub (I:Inv X pins σ H s):∀ b∈frs X.stack,b∈X.env.locals :: X.fs:=fun b hb=>by
 rcases I.ok.stk with e | ⟨e,hf⟩
 ·rw [e] at hb; exact List.mem_cons_of_mem _ hb
 ·rw [e] at hb
  unfold frs at hb
  rw [List.filterMap_cons,hf] at hb
  exact hb
theorem Inv.stkFree (I:Inv X pins σ H s):∀ b∈frs X.stack,H b=none:=fun b hb=>by
 rcases List.mem_cons.mp (I.stkSub b hb) with e | hb
 ·rw [e]; exact I.free
 ·obtain ⟨_,o,ho,_⟩:=I.ok.funs.mem hb
  exact I.base.free b o ho (I.ok.frf b hb) fun z=>I.ok.exfs b z hb
theorem Inv.step {g':Array GenState} {t':Nat} {d':Drawn} {ch:List Addr} (I:Inv X pins σ H s)
  (hch:∀ b∈ch,(b∈X.ex∨X.s₀.heap.objs.size≤b)∧b≠X.env.locals∧(∀ x c,X.env.cells.lookup x=some c→c≠b)∧∀ p∈X.pn++pins,p.1≠b)
  (keep:∀ b o,b≠X.env.locals→b ∉ X.fs→b ∉ ch→s.heap.get? b=some o→H b=none→h'.get? b=some o)
  (slot:∀ b o,b≠X.env.locals→b∈X.fs→b ∉ ch→s.heap.get? b=some o→H b=none→∃ sl,h'.get? b=some { o with slots:=sl }) (free:∀ b o,b ∉ ch→s.heap.get? b=some o→H b=none→H' b=none)
  (there:∀ b o,b ∉ ch→s.heap.get? b=some o→∃ o',h'.get? b=some o')
  (tups:∀ b xs,H b=some (.tup xs)→H' b=some (.tup xs)) (frzs:∀ b o u,H b=some (.frz o u)→H' b=some (.frz o u)) (tbls:∀ b ps,H b=some (.tbl ps)→∃ more,H' b=some (.tbl (ps++more)))
  (ns:∀ m,s.heap.Ns X.env.locals m→h'.Ns X.env.locals m) (hok:HOk X.prog X.w H' h') (hg:AllBare g') :
  Inv X pins σ H' { s with heap:=h',gens:=g',drawn:=d',toks:=t' }:=by
 have neL:∀ b o,X.s₀.heap.get? b=some o→b≠X.env.locals:=fun b o e=>Nat.ne_of_lt (Nat.lt_of_lt_of_le (Heap.lt_size e) I.ok.above)
 have neC:∀ b o,X.s₀.heap.get? b=some o→b ∉ X.ex→b ∉ ch:=fun b o e hx hb=>by
  rcases (hch b hb).1 with z | z
  ·exact hx z
  ·exact absurd (Nat.lt_of_lt_of_le (Heap.lt_size e) z) (Nat.lt_irrefl _)
 have cellK:∀ x c,X.env.cells.lookup x=some c→∀ v,s.heap.IsCell c v→h'.IsCell c v:=fun x c e v ⟨o,ho,hd⟩=>by
  have nch:c ∉ ch:=fun z=>(hch c z).2.2.1 x c e rfl
  by_cases hc:c∈X.fs
  ·obtain ⟨sl,q⟩:=slot c o (I.cne x c e) hc nch ho (I.freeC x c e)
   exact ⟨_,q,hd⟩
  ·exact ⟨o,keep c o (I.cne x c e) hc nch ho (I.freeC x c e),hd⟩
 refine ⟨I.ok,I.os,hg,⟨fun b o e n hb hx=>?_,fun b o e n hb hx=>?_,fun b o e n hx=>?_,fun b o e hx=>?_,fun b xs e=>tups b xs (I.base.tups b xs e),fun b o xs e=>frzs b o xs (I.base.frzs b o xs e),fun b ps e=>?_⟩,?_,fun x c e=>?_,?_,fun x c e=>?_,fun p hp=>?_,hok,I.len⟩
 ·exact keep b o (neL b o e) hb (neC b o e hx) (I.base.keep b o e n hb hx) (I.base.free b o e n hx)
 ·obtain ⟨sl,e1⟩:=I.base.slot b o e n hb hx
  obtain ⟨sl',e2⟩:=slot b _ (neL b o e) hb (neC b o e hx) e1 (I.base.free b o e n hx)
  exact ⟨sl',e2⟩
 ·obtain ⟨o',e1⟩:=I.base.there b o e hx
  exact free b o' (neC b o e hx) e1 (I.base.free b o e n hx)
 ·obtain ⟨o',e1⟩:=I.base.there b o e hx
  exact there b o' (neC b o e hx) e1
 ·obtain ⟨m1,e1⟩:=I.base.tbls b ps e
  obtain ⟨m2,e2⟩:=tbls b _ e1
  exact ⟨m1++m2,by rw [e2,Array.append_assoc]⟩
 ·obtain ⟨m,hn,hl⟩:=I.loc
  refine ⟨m,ns m hn,fun i x v e1 e2 e3=>?_⟩
  obtain ⟨u,r,l⟩:=hl i x v e1 e2 e3
  refine ⟨u,r,?_⟩
  rcases l with l | ⟨k,c,e,z⟩
  ·exact .inl l
  ·exact .inr ⟨k,c,e,cellK x c e _ z⟩
 ·obtain ⟨v,z⟩:=I.cell x c e
  exact ⟨v,cellK x c e v z⟩
 ·obtain ⟨m,⟨o,_,_,ho,_⟩,_⟩:=I.loc
  exact free _ o (fun z=>(hch _ z).2.1 rfl) ho I.free
 ·obtain ⟨v,o,ho,hd⟩:=I.cell x c e
  exact free c o (fun z=>(hch c z).2.2.1 x c e rfl) ho (I.freeC x c e)
 ·obtain ⟨e,n,ne,nf,d⟩:=I.pin p hp
  have nch:p.1 ∉ ch:=fun z=>(hch p.1 z).2.2.2 p hp rfl
  exact ⟨keep p.1 p.2 ne nf nch e n,free p.1 p.2 nch e n,ne,nf,d⟩
theorem Inv.un {t':Nat} (I:Inv X pins σ H s) (u:Un X.fs [] H H' s.heap h') (hok:HOk X.prog X.w H' h'):Inv X pins σ H' { s with heap:=h',toks:=t' }:=by
 obtain ⟨m,⟨o,es,ep,ho,r⟩,_⟩:=id I.loc
 obtain ⟨sl,hL⟩:=u.any ho I.free (by simp)
 exact I.step (g':=s.gens) (d':=s.drawn) (ch:=[]) (fun _ z=>nomatch z) (fun b o _ hb _ e n=>u.keep b o e n hb (by simp)) (fun b o _ hb _ e n=>u.slot b o e n hb (by simp)) (fun b o _ e n=>u.free b o e n (by simp)) (fun b o _ e=>u.there b o e (by simp)) u.tups u.frzs u.tbls (fun m' hm=>by
  obtain ⟨o',es',ep',ho',r'⟩:=hm
  rw [ho] at ho'; cases ho'
  exact ⟨_,es',ep',hL,r'⟩) hok I.bare
theorem Inv.call {g':Array GenState} {t':Nat} {d':Drawn} {ch:List Addr} (I:Inv X pins σ H s) (u:Un (frs X.stack) ch H H' s.heap h') (hok:HOk X.prog X.w H' h') (hg:AllBare g')
  (hch:∀ b∈ch,(b∈X.ex∨X.s₀.heap.objs.size≤b)∧b≠X.env.locals∧(∀ x c,X.env.cells.lookup x=some c→c≠b)∧∀ p∈X.pn++pins,p.1≠b) :
  Inv X pins σ H' { s with heap:=h',gens:=g',drawn:=d',toks:=t' }:=by
 obtain ⟨m,⟨o,es,ep,ho,r⟩,_⟩:=id I.loc
 obtain ⟨sl,hL⟩:=u.any ho I.free fun z=>(hch _ z).2.1 rfl
 exact I.step (ch:=ch) hch (fun b o hL hb hc e n=>u.keep b o e n (fun z=>(List.mem_cons.mp (I.stkSub b z)).elim hL hb) hc) (fun b o _ _ hc e n=>u.any e n hc) (fun b o hc e n=>u.free b o e n hc) (fun b o hc e=>u.there b o e hc) u.tups u.frzs u.tbls (fun m' hm=>by
  obtain ⟨o',es',ep',ho',r'⟩:=hm
  rw [ho] at ho'; cases ho'
  exact ⟨_,es',ep',hL,r'⟩) hok hg
theorem Inv.turned {t':Nat} {it:Addr} (I:Inv X pins σ H s) (k:∀ b o,b≠it→s.heap.get? b=some o→h'.get? b=some o) (hn:H it=none) (hL:it≠X.env.locals)
  (h1:it∈X.ex∨X.s₀.heap.objs.size≤it) (h2:∀ x c,X.env.cells.lookup x=some c→c≠it) (h3:∀ p∈X.pn++pins,p.1≠it):Inv X pins σ H { s with heap:=h',toks:=t' }:=by
 have nit:∀ b u,H b=some u→b≠it:=fun b u e z=>by rw [z,hn] at e; cases e
 refine I.step (g':=s.gens) (d':=s.drawn) (ch:=[it]) (fun b hb=>?_) (fun b o _ _ hc e _=>k b o (fun z=>hc (by simp [z])) e) (fun b o _ _ hc e _=>⟨o.slots,k b o (fun z=>hc (by simp [z])) e⟩) (fun _ _ _ _ n=>n)
  (fun b o hc e=>⟨o,k b o (fun z=>hc (by simp [z])) e⟩) (fun _ _ e=>e) (fun _ _ _ e=>e) (fun b ps e=>⟨#[],by rw [e]; simp⟩) (fun m hm=>?_) (fun b u e=>?_) I.bare
 ·have e:b=it:=by simpa using hb
  subst e
  exact ⟨h1,hL,h2,h3⟩
 ·obtain ⟨o,es,ep,ho,r⟩:=hm
  exact ⟨o,es,ep,k _ o (Ne.symm hL) ho,r⟩
 ·refine (I.hok b u e).stay (fun c v hc q=>k c v ?_ q) (fun _ q=>q) fun _ _ q=>q
  rcases hc with z | z
  ·rw [z]; exact nit b u e
  ·exact nit c _ z
theorem Inv.tok (I:Inv X pins σ H s) (t:Nat):Inv X pins σ H { s with toks:=t }:=I.un (h':=s.heap) (t':=t) Un.refl I.hok
theorem Inv.kept {t':Nat} (I:Inv X pins σ H s) (k:∀ b u,s.heap.get? b=some u→h'.get? b=some u):Inv X pins σ H { s with heap:=h',toks:=t' }:=I.un (Un.kept k) (I.hok.kept k)
theorem Inv.laid {a:Addr} {o:HO} {t':Nat} (I:Inv X pins σ H s) (k:∀ b u,s.heap.get? b=some u→h'.get? b=some u) (hp:s.heap.objs.size≤a) (new:cL X.prog X.w (upd H a o) h' a o) :
  Inv X pins σ (upd H a o) { s with heap:=h',toks:=t' }:=I.un (Un.laid k hp (I.hok.fresh hp)) (I.hok.laid k hp new)
theorem Inv.write {x e:Addr} {o:HO} {t':Nat} (I:Inv X pins σ H s) (mu:Mut (H x)) (he:e=x∨H e=some (.own x)) (k:∀ b u,b≠e→s.heap.get? b=some u→h'.get? b=some u) (heo:∃ u,h'.get? e=some u)
  (new:cL X.prog X.w (upd H x o) h' x o):Inv X pins σ (upd H x o) { s with heap:=h',toks:=t' }:=I.un (Un.write mu he k heo) (I.hok.write mu he k heo new)
theorem Inv.pins_of {pins':List (Addr × Obj)} (I:Inv X pins σ H s) (h:∀ p∈pins',s.heap.get? p.1=some p.2∧H p.1=none∧p.1≠X.env.locals∧p.1 ∉ X.fs∧∀ v,p.2.data≠.cell v):Inv X pins' σ H s :=
 ⟨I.ok,I.os,I.bare,I.base,I.loc,I.cell,I.free,I.freeC,fun p hp=>(List.mem_append.mp hp).elim (fun z=>I.pin p (List.mem_append_left _ z)) (h p),I.hok,I.len⟩
theorem ug {N:List Str} (hN:N.Nodup) {i j:Nat} {x:Str} (a:N[i]?=some x) (b:N[j]?=some x):i=j:=by
 obtain ⟨h1,e1⟩:=List.getElem?_eq_some_iff.mp a
 obtain ⟨h2,e2⟩:=List.getElem?_eq_some_iff.mp b
 exact (List.getElem_inj hN).mp (e1.trans e2.symm)
theorem qD {M:Model} {A:Around} {E:Value→Shared→Prop} {i:Nat} {x:Str} {v:V} {u:Value} {Q:Unit→Shared→Prop} (I:Inv X pins σ H s) (hN:X.N.Nodup) (hi:X.N[i]?=some x) (hx:Loc X.env.scope x) (r:RelV v u)
  (h:∀ s',Inv X pins (σ.set i (some v)) H s'→(∃ a,Heap.SameBut a s.heap s'.heap∧(a=X.env.locals∨X.env.cells.lookup x=some a))→Q () s') (hf:X.fn x=true∨X.env.scope.names.lookup x=some .local:=by first | exact .inl rfl | exact .inr rfl | assumption):wpAny M A (storeName X.env x u) Q E s:=by
 obtain ⟨m,hn,hl⟩:=id I.loc
 have hcls:(X.env.scope.kind == .class || (X.env.scope.kind == .module && X.env.locals != X.env.globals))=false:=by rw [I.ok.kind]; rfl
 have hiσ:i < σ.length:=by rw [I.len]; exact (List.getElem?_eq_some_iff.mp hi).1
 have cne:=I.cne
 have tracked:∀ {a:Addr} {h':Heap},(∃ o,s.heap.get? a=some o∧H a=none)→Heap.SameBut a s.heap h'→HOk X.prog X.w H h':=fun {a h'} ha hs b ob e=>by
  obtain ⟨_,_,hfree⟩:=ha
  refine (I.hok b ob e).stay (fun c w' hc q=>(hs.2 c ?_).trans q) (fun _ q=>q) fun _ _ q=>q
  rintro rfl
  rcases hc with rfl | hc
  ·rw [hfree] at e; cases e
  ·rw [hfree] at hc; cases hc
 rcases hx with hk | hk
 ·refine wpAny_storeName_local hk hn (fun h' hn' hs=>?_) hcls
  obtain ⟨oL,_,_,hoL,_⟩:=id hn
  refine h _ ⟨I.ok,I.os,I.bare,⟨fun b o e n hb hx=>?_,fun b o e n hb hx=>?_,I.base.free,fun b o e hx=>?_,I.base.tups,I.base.frzs,I.base.tbls⟩,⟨_,hn',fun j y v' e1 e2 e3=>?_⟩,fun y c e=>?_,I.free,I.freeC,fun p hp=>?_,tracked ⟨oL,hoL,I.free⟩ hs,by simpa using I.len⟩ ⟨_,hs,.inl rfl⟩
  ·exact (hs.2 b (Nat.ne_of_lt (Nat.lt_of_lt_of_le (Heap.lt_size e) I.ok.above))).trans (I.base.keep b o e n hb hx)
  ·obtain ⟨sl,e1⟩:=I.base.slot b o e n hb hx
   exact ⟨sl,(hs.2 b (Nat.ne_of_lt (Nat.lt_of_lt_of_le (Heap.lt_size e) I.ok.above))).trans e1⟩
  ·obtain ⟨o',e1⟩:=I.base.there b o e hx
   exact ⟨o',(hs.2 b (Nat.ne_of_lt (Nat.lt_of_lt_of_le (Heap.lt_size e) I.ok.above))).trans e1⟩
  ·by_cases hj:j=i
   ·subst hj
    rw [hi] at e1; cases e1
    rw [List.getElem?_set_self hiσ] at e2
    cases e2
    exact ⟨u,r,.inl ⟨hk,by simp⟩⟩
   ·rw [List.getElem?_set_ne (Ne.symm hj)] at e2
    obtain ⟨u',r',q⟩:=hl j y v' e1 e2 e3
    refine ⟨u',r',?_⟩
    rcases q with ⟨k,e⟩ | ⟨k,c,e,z⟩
    ·refine .inl ⟨k,?_⟩
     have:y≠x:=fun e=>hj (ug hN e1 (e ▸ hi))
     simp [this,e]
    ·exact .inr ⟨k,c,e,z.sameBut hs (cne y c e)⟩
  ·obtain ⟨w',z⟩:=I.cell y c e
   exact ⟨w',z.sameBut hs (cne y c e)⟩
  ·obtain ⟨e,n,ne,nf,d⟩:=I.pin p hp
   exact ⟨(hs.2 p.1 ne).trans e,n,ne,nf,d⟩
 ·have hfn:X.fn x=true:=by
   rcases hf with z | z
   ·exact z
   ·rw [z] at hk; cases hk
  obtain ⟨c,hc⟩:=I.ok.has x (.inl hk)
  obtain ⟨w',z⟩:=I.cell x c hc
  refine wpAny_storeName_cell I.ok.kind hk hc z (fun h' hc' hs=>?_)
  obtain ⟨oc,hoc,hocd⟩:=id z
  refine h { s with heap:=h' } ⟨I.ok,I.os,I.bare,⟨fun b o e n hb hx=>?_,fun b o e n hb hx=>?_,I.base.free,fun b o e hx=>?_,I.base.tups,I.base.frzs,I.base.tbls⟩,⟨m,hn.sameBut hs (Ne.symm (cne x c hc)),fun j y v' e1 e2 e3=>?_⟩,fun y c' e=>?_,I.free,I.freeC,fun p hp=>?_,tracked ⟨oc,hoc,I.freeC x c hc⟩ hs,by simpa using I.len⟩ ⟨c,hs,.inr hc⟩
  ·exact (hs.2 b (Nat.ne_of_lt (Nat.lt_of_lt_of_le (Heap.lt_size e) (I.ok.cab x c hfn hc)))).trans (I.base.keep b o e n hb hx)
  ·obtain ⟨sl,e1⟩:=I.base.slot b o e n hb hx
   exact ⟨sl,(hs.2 b (Nat.ne_of_lt (Nat.lt_of_lt_of_le (Heap.lt_size e) (I.ok.cab x c hfn hc)))).trans e1⟩
  ·obtain ⟨o',e1⟩:=I.base.there b o e hx
   exact ⟨o',(hs.2 b (Nat.ne_of_lt (Nat.lt_of_lt_of_le (Heap.lt_size e) (I.ok.cab x c hfn hc)))).trans e1⟩
  ·by_cases hj:j=i
   ·subst hj
    rw [hi] at e1; cases e1
    rw [List.getElem?_set_self hiσ] at e2
    cases e2
    exact ⟨u,r,.inr ⟨.inl hk,c,hc,hc'⟩⟩
   ·rw [List.getElem?_set_ne (Ne.symm hj)] at e2
    obtain ⟨u',r',q⟩:=hl j y v' e1 e2 e3
    refine ⟨u',r',?_⟩
    rcases q with q | ⟨k,c',e,z'⟩
    ·exact .inl q
    ·refine .inr ⟨k,c',e,z'.sameBut hs ?_⟩
     rintro rfl
     exact hj (ug hN e1 (I.ok.inj _ _ _ e hc ▸ hi))
  ·by_cases hcc:c'=c
   ·subst hcc; exact ⟨_,hc'⟩
   ·obtain ⟨w2,z2⟩:=I.cell y c' e
    exact ⟨w2,z2.sameBut hs hcc⟩
  ·obtain ⟨e,n,ne,nf,d⟩:=I.pin p hp
   refine ⟨(hs.2 p.1 ?_).trans e,n,ne,nf,d⟩
   intro q
   rw [q,hoc] at e
   have q':oc=p.2:=Option.some.inj e
   exact d w' (by rw [← q']; exact hocd)
theorem jm {M:Model} {A:Around} {E:Value→Shared→Prop} {i:Nat} {x:Str} {v:V} {u:Value} {Q:Unit→Shared→Prop} (I:Inv X pins σ H s) (hN:X.N.Nodup) (hi:X.N[i]?=some x) (hx:Loc X.env.scope x) (r:RelV v u)
  (h:∀ s',Inv X pins (σ.set i (some v)) H s'→Q () s') (hf:X.fn x=true∨X.env.scope.names.lookup x=some .local:=by first | exact .inl rfl | exact .inr rfl | assumption):wpAny M A (storeName X.env x u) Q E s :=
 qD I hN hi hx r (fun s' I' _=>h s' I') hf
theorem Inv.call' {s':Shared} {ch:List Addr} (I:Inv X pins σ H s) (ho:s'.os=s.os) (u:Un (frs X.stack) ch H H' s.heap s'.heap) (hok:HOk X.prog X.w H' s'.heap) (hg:AllBare s'.gens)
  (hch:∀ b∈ch,(b∈X.ex∨X.s₀.heap.objs.size≤b)∧b≠X.env.locals∧(∀ x c,X.env.cells.lookup x=some c→c≠b)∧∀ p∈X.pn++pins,p.1≠b):Inv X pins σ H' s':=by
 obtain ⟨h',g',d',t',o'⟩:=s'
 have e:o'=s.os:=ho
 subst e
 exact I.call (g':=g') (t':=t') (d':=d') u hok hg hch
end
abbrev XK:=Value→Option Addr→Hp→Prop
abbrev St:=List (Option V)
abbrev VK:=V→Hp→Prop
abbrev TE:=St→Hp→VK→Prop
abbrev TT:=St→Hp→(Bool→Hp→Prop)→Prop
abbrev TA:=St→Hp→(List V→Hp→Prop)→Prop
structure Ends where
 nx:St→Hp→Prop
 rt:VK
 bk:St→Hp→Prop:=fun _ _=>False
 ct:St→Hp→Prop:=fun _ _=>False
abbrev TS:=Ends→St→Hp→Prop
def EP (X:Cx) (pins:List (Addr × Obj)) (σ:St) (Q:VK) (u:Value) (s':Shared):Prop:=∃ v H',Inv X pins σ H' s'∧RelV v u∧Q v H'
def TP (X:Cx) (pins:List (Addr × Obj)) (σ:St) (Q:Bool→Hp→Prop) (b:Bool) (s':Shared):Prop:=∃ H',Inv X pins σ H' s'∧Q b H'
def AP (X:Cx) (pins:List (Addr × Obj)) (σ:St) (Q:List V→Hp→Prop) (us:List Value) (s':Shared):Prop:=∃ vs H',Inv X pins σ H' s'∧Vals vs us∧Q vs H'
def SP (X:Cx) (pins:List (Addr × Obj)) (D:Ends) (f:Flow) (s':Shared):Prop :=
 match f with
 | .next=>∃ σ' H',Inv X pins σ' H' s'∧D.nx σ' H'
 | .brk=>∃ σ' H',Inv X pins σ' H' s'∧D.bk σ' H'
 | .cont=>∃ σ' H',Inv X pins σ' H' s'∧D.ct σ' H'
 | .ret u=>∃ v σ' H',Inv X pins σ' H' s'∧RelV v u∧D.rt v H'
def PE (X:Cx) (e:Expr) (t:TE):Prop :=
 ∀ (pins:List (Addr × Obj)) (s:Shared) (σ:St) (H:Hp) (Q:VK),Inv X pins σ H s→t σ H Q→wpAny (model X.prog X.w) X.A (eval e X.env) (EP X pins σ Q) X.xe s
def PT (X:Cx) (e:Expr) (t:TT):Prop :=
 ∀ (pins:List (Addr × Obj)) (s:Shared) (σ:St) (H:Hp) (Q:Bool→Hp→Prop),Inv X pins σ H s→t σ H Q→wpAny (model X.prog X.w) X.A (isTrue e X.env (eval e X.env)) (TP X pins σ Q) X.xe s
def PW (X:Cx) (e:Expr) (t:TT):Prop :=
 ∀ (whole:Sem Value) (pins:List (Addr × Obj)) (s:Shared) (σ:St) (H:Hp) (Q:Bool→Hp→Prop),Inv X pins σ H s→t σ H Q→wpAny (model X.prog X.w) X.A (isTrue e X.env whole) (TP X pins σ Q) X.xe s
theorem PW.pt {X:Cx} {e:Expr} {t:TT} (h:PW X e t):PT X e t:=h _
def PA (X:Cx) (es:List Expr) (t:TA):Prop :=
 ∀ (pos:Pos) (pins:List (Addr × Obj)) (s:Shared) (σ:St) (H:Hp) (Q:List V→Hp→Prop),Inv X pins σ H s→t σ H Q→wpAny (model X.prog X.w) X.A (spliced (backTo pos (starEach es X.env))) (AP X pins σ Q) X.xe s
def PS (X:Cx) (st:Stmt) (t:TS):Prop :=
 ∀ (pins:List (Addr × Obj)) (s:Shared) (σ:St) (H:Hp) (D:Ends),Inv X pins σ H s→t D σ H→wpAny (model X.prog X.w) X.A (exec st X.env) (SP X pins D) X.xe s
def PSs (X:Cx) (st:List Stmt) (t:TS):Prop :=
 ∀ (pins:List (Addr × Obj)) (s:Shared) (σ:St) (H:Hp) (D:Ends),Inv X pins σ H s→t D σ H→wpAny (model X.prog X.w) X.A (execs st X.env) (SP X pins D) X.xe s
theorem thn {α:Type} {t:Sem α} {Q Q':α→Shared→Prop} {M:Model} {A:Around} {E:Value→Shared→Prop} {s:Shared} (h:wpAny M A t Q E s) (hQ:∀ a s,Q a s→Q' a s):wpAny M A t Q' E s:=wpAny_mono h hQ fun _ _ x=>x
end L2
namespace L2
open PySem PySem.Spec PyProof.Rows
section
variable {X:Cx}
theorem bin {a b:Expr} {ta tb:TE} (ha:PE X a ta) (hb:PE X b tb) {pins:List (Addr × Obj)} {s:Shared} {σ:St} {H:Hp} {R:V→V→Hp→Prop} (I:Inv X pins σ H s) (h:ta σ H fun x H1=>tb σ H1 fun y H2=>R x y H2)
  {α:Type} {Q:α→Shared→Prop} {f:Value→Value→Sem α}
  (hf:∀ v u s2 x y H2,Inv X pins σ H2 s2→RelV x v→RelV y u→R x y H2→wpAny (model X.prog X.w) X.A (f v u) Q X.xe s2) :
  wpAny (model X.prog X.w) X.A (eval a X.env) (fun v s₁=>wpAny (model X.prog X.w) X.A (eval b X.env) (fun u s₂=>wpAny (model X.prog X.w) X.A (f v u) Q X.xe s₂) X.xe s₁) X.xe s:=by
 refine thn (ha pins s σ H _ I h) fun v s1 ⟨x,H1,I1,r1,q1⟩=>?_
 refine thn (hb pins s1 σ H1 _ I1 q1) fun u s2 ⟨y,H2,I2,r2,q2⟩=>?_
 exact hf v u s2 x y H2 I2 r1 r2 q2
def vo (i:Nat):TE:=fun σ H Q=>∃ v,σ[i]?=some (some v)∧Q v H
def tC (v:V):TE:=fun _ H Q=>Q v H
theorem HD {i:Nat} {x:Str} {pos:Pos} (hN:X.N[i]?=some x) (hv:Vis X.env.scope x) (hd:(x == ("__debug__" : Str))=false:=by decide) (hcd:(x == ("__classdict__" : Str))=false:=by decide):PE X (.Name x pos) (vo i):=by
 intro pins s σ H Q I h
 obtain ⟨v,e,h⟩:=h
 obtain ⟨m,hn,hl⟩:=I.loc
 obtain ⟨u,r,l⟩:=hl i x v hN e hv
 have fin:EP X pins σ Q u s:=⟨v,H,I,r,h⟩
 rcases l with ⟨hk,hm⟩ | ⟨hk,c,hc,hcell⟩
 ·exact wpAny_Name (wpAny_loadName_local I.ok.kind hk hn hm fin) hd
 ·rcases hk with hk | hk
  ·exact wpAny_Name (wpAny_loadName_cell I.ok.kind hk hc hcell fin) hd
  ·exact wpAny_Name (wpAny_loadName_free I.ok.kind hk hc hcell fin hcd) hd
theorem aA {i j pos}:PE X (.Constant (.int i) j pos) (tC (.int i)):=fun _ _ _ H _ I h=>wpAny_Constant_int ⟨.int i,H,I.tok _,⟨_,rfl⟩,h⟩
theorem gn {b j pos}:PE X (.Constant (.bool b) j pos) (tC (.bl b)):=fun _ _ _ H _ I h=>Constant_bool ⟨.bl b,H,I,rfl,h⟩
theorem tu {j pos}:PE X (.Constant .none j pos) (tC .non):=fun _ _ _ H _ I h=>Constant_none ⟨.non,H,I,rfl,h⟩
theorem bL {x j pos}:PE X (.Constant (.str x) j pos) (tC (.str x)):=fun _ _ _ H _ I h=>Calls.Constant_str ⟨.str x,H,I.tok _,⟨_,rfl⟩,h⟩
def Gl (X:Cx) (x:Str):Prop:=X.env.kindOf x=some .globalImplicit
theorem xT {E:Value→Shared→Prop} {pins:List (Addr × Obj)} {s:Shared} {σ:St} {H:Hp} {x:Str} {u:Value} {pos:Pos} {Q:Value→Shared→Prop} (I:Inv X pins σ H s) (hg:Gl X x) (hm:X.mg x=some u) (h:Q u s)
  (hd:(x == ("__debug__" : Str))=false:=by decide):wpAny (model X.prog X.w) X.A (eval (.Name x pos) X.env) Q E s :=
 Calls.Name_function_global I.ok.kind hg (Calls.loadGlobal_global (by rw [I.ok.glob]; exact I.mod.glob.keeps I.bk) hm h) hd
theorem jT {E:Value→Shared→Prop} {pins:List (Addr × Obj)} {s:Shared} {σ:St} {H:Hp} {x:Str} {u:Value} {pos:Pos} {Q:Value→Shared→Prop} (I:Inv X pins σ H s) (hg:Gl X x) (hm:X.mg x=none) (hv:bootBuiltins x=some u) (h:Q u s)
  (hn:x ≠ "__name__":=by decide) (hd:(x == ("__debug__" : Str))=false:=by decide):wpAny (model X.prog X.w) X.A (eval (.Name x pos) X.env) Q E s:=by
 obtain ⟨mb,h1,h2⟩:=I.mod.blt
 exact Calls.Name_function_global I.ok.kind hg (Calls.loadGlobal_builtin (by rw [I.ok.glob]; exact I.mod.glob.keeps I.bk) hm (by rw [I.ok.blt]; exact h1.keeps I.bk) ((h2 x hn).trans hv) h) hd
theorem jD {x:Str} {v:V} {u:Value} {pos:Pos} (hg:Gl X x) (hm:X.mg x=some u) (r:RelV v u) (hd:(x == ("__debug__" : Str))=false:=by decide):PE X (.Name x pos) (tC v) :=
 fun _ _ _ H _ I h=>xT I hg hm ⟨v,H,I,r,h⟩ hd
theorem gJ {x:Str} {v:V} {u:Value} {pos:Pos} (hg:Gl X x) (hm:X.mg x=none) (hv:bootBuiltins x=some u) (r:RelV v u) (hn:x ≠ "__name__":=by decide) (hd:(x == ("__debug__" : Str))=false:=by decide):PE X (.Name x pos) (tC v) :=
 fun _ _ _ H _ I h=>jT I hg hm hv ⟨v,H,I,r,h⟩ hn hd
variable {a b:Expr} {ta tb:TE} {pos:Pos}
def PC (X:Cx) (op:CmpOp) (a b:Expr) (t:TE):Prop :=
 ∀ (pins:List (Addr × Obj)) (s:Shared) (σ:St) (H:Hp) (Q:VK),Inv X pins σ H s→t σ H Q →
  wpAny (model X.prog X.w) X.A (eval a X.env) (fun v s₁=>wpAny (model X.prog X.w) X.A (eval b X.env) (fun u s₂=>wpAny (model X.prog X.w) X.A (compareOp op v u) (EP X pins σ Q) X.xe s₂) X.xe s₁) X.xe s
theorem Cm (b:Expr) {op:CmpOp} (h:op≠.In) (h2:op≠.NotIn):behindInMarks op b=false:=by
 have e1:(op == CmpOp.In)=false:=by cases op <;> first | rfl | exact absurd rfl h
 have e2:(op == CmpOp.NotIn)=false:=by cases op <;> first | rfl | exact absurd rfl h2
 cases b <;> simp [behindInMarks,e1,e2]
def tB (t:TE):TT:=fun σ H Q=>t σ H fun x H1=>∃ c,x=.bl c∧Q c H1
theorem Hv {op:CmpOp} {t:TE} (h:PC X op a b t) (h1:behindInMarks op b=false:=by first | exact Cm _ (by decide) (by decide) | rfl):PT X (.Compare a [op] [b] pos) (tB t):=by
 intro pins s σ H Q I hw
 refine wpAny_isTrue_Compare1 (thn (h pins s σ H _ I hw) fun v s1 h1=>thn h1 fun u s2 h2=>thn h2 fun c s3 ⟨x,H1,I1,r1,q1⟩=>?_) h1
 obtain ⟨d,rfl,q⟩:=q1
 cases r1
 exact wpAny_truthy_bool ⟨H1,I1,q⟩
theorem iZ {e:Expr} {t:TE} (h:PE X e t) (he:∀ whole,isTrue e X.env whole=(do let v ← whole; standAt e.pos; holding [v] (truthy v)):=by intro _; rfl):PT X e (tB t):=by
 intro pins s σ H Q I hw
 refine isTrue_plain (thn (h pins s σ H _ I hw) fun v s1 ⟨x,H1,I1,r1,q1⟩=>?_) (he _)
 obtain ⟨d,rfl,q⟩:=q1
 cases r1
 exact wpAny_truthy_bool ⟨H1,I1,q⟩
variable {tA tB':TT} {rest:List Expr}
def Mt (t u:TT):TT:=fun σ H Q=>t σ H fun c H1=>if c=true then u σ H1 Q else Q false H1
def tOr (t u:TT):TT:=fun σ H Q=>t σ H fun c H1=>if c=true then Q true H1 else u σ H1 Q
def Ng (t:TT):TT:=fun σ H Q=>t σ H fun c H1=>Q (!c) H1
theorem iI (ha:PT X a tA):PW X (.BoolOp .And [a] pos) tA:=by
 intro wh pins s σ H Q I h
 refine isTrue_and (thn (ha pins s σ H Q I h) fun c s1 e=>?_)
 cases c with
 | true=>exact isTrue_and_nil e
 | false=>exact e
theorem uN (ha:PT X a tA):PW X (.BoolOp .Or [a] pos) tA:=by
 intro wh pins s σ H Q I h
 refine isTrue_or (thn (ha pins s σ H Q I h) fun c s1 e=>?_)
 cases c with
 | false=>exact isTrue_or_nil e
 | true=>exact e
theorem iy (ha:PT X a tA) (hb:PW X (.BoolOp .And (b :: rest) pos) tB'):PW X (.BoolOp .And (a :: b :: rest) pos) (Mt tA tB'):=by
 intro wh pins s σ H Q I h
 refine isTrue_and (thn (ha pins s σ H _ I h) fun c s1 ⟨H1,I1,q1⟩=>?_)
 cases c with
 | true=>exact hb wh pins s1 σ H1 Q I1 q1
 | false=>exact ⟨H1,I1,q1⟩
theorem Br (ha:PT X a tA) (hb:PW X (.BoolOp .Or (b :: rest) pos) tB'):PW X (.BoolOp .Or (a :: b :: rest) pos) (tOr tA tB'):=by
 intro wh pins s σ H Q I h
 refine isTrue_or (thn (ha pins s σ H _ I h) fun c s1 ⟨H1,I1,q1⟩=>?_)
 cases c with
 | true=>exact ⟨H1,I1,q1⟩
 | false=>exact hb wh pins s1 σ H1 Q I1 q1
theorem uf (ha:PT X a tA):PT X (.UnaryOp .Not a pos) (Ng tA):=by
 intro pins s σ H Q I h
 exact isTrue_not (ha pins s σ H (fun c H1=>Q (!c) H1) I h)
def La (ta tb:TE):TE:=fun σ H Q=>ta σ H fun x H1=>∃ c,x=.bl c∧if c=true then tb σ H1 Q else Q (.bl false) H1
def KZ (ta tb:TE):TE:=fun σ H Q=>ta σ H fun x H1=>∃ c,x=.bl c∧if c=true then Q (.bl true) H1 else tb σ H1 Q
def J5 (ta:TE):TE:=fun σ H Q=>ta σ H fun x H1=>∃ c,x=.bl c∧Q (.bl (!c)) H1
theorem gY {op} {t:TE} (h:PE X a t):PE X (.BoolOp op [a] pos) t:=fun pins s σ H Q I hw=>BoolOp_one (h pins s σ H Q I hw)
theorem fP (ha:PE X a ta) (hb:PE X (.BoolOp .And (b :: rest) pos) tb):PE X (.BoolOp .And (a :: b :: rest) pos) (La ta tb):=by
 intro pins s σ H Q I h
 refine BoolOp_and (thn (ha pins s σ H _ I h) fun v s1 ⟨x,H1,I1,r1,q1⟩=>?_)
 obtain ⟨c,rfl,q1⟩:=q1
 cases r1
 refine wpAny_truthy_bool ?_
 cases c with
 | true=>exact hb pins s1 σ H1 Q I1 q1
 | false=>exact ⟨.bl false,H1,I1,rfl,q1⟩
theorem Iv (ha:PE X a ta) (hb:PE X (.BoolOp .Or (b :: rest) pos) tb):PE X (.BoolOp .Or (a :: b :: rest) pos) (KZ ta tb):=by
 intro pins s σ H Q I h
 refine BoolOp_or (thn (ha pins s σ H _ I h) fun v s1 ⟨x,H1,I1,r1,q1⟩=>?_)
 obtain ⟨c,rfl,q1⟩:=q1
 cases r1
 refine wpAny_truthy_bool ?_
 cases c with
 | false=>exact hb pins s1 σ H1 Q I1 q1
 | true=>exact ⟨.bl true,H1,I1,rfl,q1⟩
theorem Jq (ha:PE X a ta):PE X (.UnaryOp .Not a pos) (J5 ta):=by
 intro pins s σ H Q I h
 refine UnaryOp_ (thn (ha pins s σ H _ I h) fun v s1 ⟨x,H1,I1,r1,q1⟩=>?_)
 obtain ⟨c,rfl,q1⟩:=q1
 cases r1
 exact not_of (wpAny_truthy_bool ⟨.bl (!c),H1,I1,rfl,q1⟩)
def tIf (t:TT) (ta tb:TE):TE:=fun σ H Q=>t σ H fun c H1=>if c=true then ta σ H1 Q else tb σ H1 Q
theorem tQ {c:Expr} (hc:PT X c tA) (ha:PE X a ta) (hb:PE X b tb):PE X (.IfExp c a b pos) (tIf tA ta tb):=by
 intro pins s σ H Q I h
 refine wpAny_IfExp (thn (hc pins s σ H _ I h) fun d s1 ⟨H1,I1,q1⟩=>?_)
 cases d with
 | true=>exact ha pins s1 σ H1 Q I1 q1
 | false=>exact hb pins s1 σ H1 Q I1 q1
end
end L2
namespace L2
open PySem PySem.Spec PyProof.Rows
def SqL (K:PySem.W.Frag) (H:Hp) (a:Addr) (xs:List V):Prop :=
 Rd H a (.lst xs) ∨
  ∃ (o:Obj) (its:Array Value) (n:Nat),K.lookup a=some o∧o.cls=.type "list"∧o.dict=none∧o.data=.seq its n∧its.size≤sizeLine∧Vals xs its.toList
def SqT (K:PySem.W.Frag) (H:Hp) (a:Addr) (xs:List V):Prop :=
 Rd H a (.tup xs) ∨
  ∃ (o:Obj) (its:Array Value) (n:Nat),K.lookup a=some o∧o.cls=.type "tuple"∧o.data=.seq its n∧its.size≤sizeLine∧Vals xs its.toList
def Nf:Value→Option V
 | .none=>some .non
 | .bool b=>some (.bl b)
 | .int i _=>some (.int i)
 | .str x _=>some (.str x)
 | .bytes b _=>some (.byt b)
 | .float b _=>some (.flt b)
 | .ref a=>some (.ref a)
 | .type n=>some (.ty n)
 | _=>none
theorem RelV.abs {x:V} {u:Value} (r:RelV x u):Nf u=some x:=by
 cases x with
 | non=>cases r; rfl
 | bl _=>cases r; rfl
 | int _=>obtain ⟨t,rfl⟩:=r; rfl
 | str _=>obtain ⟨t,rfl⟩:=r; rfl
 | byt _=>obtain ⟨t,rfl⟩:=r; rfl
 | flt _=>obtain ⟨t,rfl⟩:=r; rfl
 | ref _=>cases r; rfl
 | ty _=>cases r; rfl
theorem RelV.inj {x y:V} {u:Value} (r:RelV x u) (q:RelV y u):x=y:=Option.some.inj (r.abs.symm.trans q.abs)
theorem Vals.inj:∀ {xs ys:List V} {us:List Value},Vals xs us→Vals ys us→xs=ys
 | _,_,_,.nil,.nil=>rfl
 | _,_,_,.cons r t,.cons r' t'=>by rw [r.inj r',Vals.inj t t']
section
variable {X:Cx} {pins:List (Addr × Obj)} {σ:St} {H:Hp} {s:Shared} {a:Addr} {xs ys:List V}
theorem SqL.of {K:PySem.W.Frag} (h:H a=some (.lst xs)):SqL K H a xs:=.inl (.inl h)
theorem SqT.of {K:PySem.W.Frag} (h:H a=some (.tup xs)):SqT K H a xs:=.inl (.inl h)
theorem Inv.list (I:Inv X pins σ H s) (h:SqL X.K H a xs):∃ its:List Value,Vals xs its∧PlainL s.heap a its.toArray∧xs.length≤sizeLine:=by
 rcases h with h | ⟨o,its,n,hk,hc,hd,hs,hz,r⟩
 ·obtain ⟨z,its,n,r,e⟩:=h.ok I.hok
  exact ⟨its,r,⟨_,n,e,rfl,rfl,rfl⟩,z⟩
 ·refine ⟨its.toList,r,⟨o,n,I.kIn a o hk,hc,hd,by simpa using hs⟩,?_⟩
  have e:=r.length
  simp only [Array.length_toList] at e
  omega
theorem Inv.tuple (I:Inv X pins σ H s) (h:SqT X.K H a xs):∃ its:List Value,Vals xs its∧IsTup s.heap a its.toArray∧xs.length≤sizeLine:=by
 rcases h with h | ⟨o,its,n,hk,hc,hs,hz,r⟩
 ·obtain ⟨z,its,r,p⟩:=h.ok I.hok
  exact ⟨its,r,p,z⟩
 ·refine ⟨its.toList,r,⟨o,I.kIn a o hk,hc,n,by simpa using hs⟩,?_⟩
  have e:=r.length
  simp only [Array.length_toList] at e
  omega
theorem Inv.list_inj (I:Inv X pins σ H s) (h:SqL X.K H a xs) (h':SqL X.K H a ys):xs=ys:=by
 obtain ⟨its,r,⟨o,n,e,_,_,d⟩,_⟩:=I.list h
 obtain ⟨its',r',⟨o',n',e',_,_,d'⟩,_⟩:=I.list h'
 rw [e] at e'; cases e'
 rw [d] at d'
 injection d' with d1 _
 have:its=its':=by simpa using congrArg Array.toList d1
 subst this
 exact r.inj r'
theorem Inv.tuple_inj (I:Inv X pins σ H s) (h:SqT X.K H a xs) (h':SqT X.K H a ys):xs=ys:=by
 obtain ⟨its,r,⟨o,e,_,n,d⟩,_⟩:=I.tuple h
 obtain ⟨its',r',⟨o',e',_,n',d'⟩,_⟩:=I.tuple h'
 rw [e] at e'; cases e'
 rw [d] at d'
 injection d' with d1 _
 have:its=its':=by simpa using congrArg Array.toList d1
 subst this
 exact r.inj r'
end
abbrev Cx.wish (X:Cx) (E:Value→Shared→Prop):Cx:={ X with xe:=E }
abbrev Cx.nox (X:Cx):Cx:=X.wish fun _ _=>False
theorem Cx.Ok.wish {X:Cx} (ok:X.Ok) (E:Value→Shared→Prop):(X.wish E).Ok :=
 ⟨ok.mod,ok.kind,ok.glob,ok.blt,ok.above,ok.inj,ok.has,ok.cab,ok.hd,ok.frames,ok.stk,ok.exf,ok.bs,ok.bsz,ok.noex,ok.exfs,ok.funs,ok.frf⟩
theorem Cx.Ok.unwish {X:Cx} {E:Value→Shared→Prop} (ok:(X.wish E).Ok):X.Ok :=
 ⟨ok.mod,ok.kind,ok.glob,ok.blt,ok.above,ok.inj,ok.has,ok.cab,ok.hd,ok.frames,ok.stk,ok.exf,ok.bs,ok.bsz,ok.noex,ok.exfs,ok.funs,ok.frf⟩
section
variable {X:Cx} {pins:List (Addr × Obj)} {σ:St} {H:Hp} {s:Shared} {E:Value→Shared→Prop}
theorem Inv.wish (I:Inv X pins σ H s) (E:Value→Shared→Prop):Inv (X.wish E) pins σ H s:=⟨I.ok.wish E,I.os,I.bare,I.base,I.loc,I.cell,I.free,I.freeC,I.pin,I.hok,I.len⟩
theorem Inv.unwish (I:Inv (X.wish E) pins σ H s):Inv X pins σ H s:=⟨I.ok.unwish,I.os,I.bare,I.base,I.loc,I.cell,I.free,I.freeC,I.pin,I.hok,I.len⟩
theorem SP.unwish {D:Ends} {f:Flow} {s':Shared} (h:SP (X.wish E) pins D f s'):SP X pins D f s':=by
 cases f with
 | next=>obtain ⟨σ',H',I,q⟩:=h; exact ⟨σ',H',I.unwish,q⟩
 | brk=>obtain ⟨σ',H',I,q⟩:=h; exact ⟨σ',H',I.unwish,q⟩
 | cont=>obtain ⟨σ',H',I,q⟩:=h; exact ⟨σ',H',I.unwish,q⟩
 | ret u=>obtain ⟨v,σ',H',I,r,q⟩:=h; exact ⟨v,σ',H',I.unwish,r,q⟩
theorem PSs.nox {st:List Stmt} {t:TS} (h:PSs X.nox st t):PSs X st t:=fun pins s σ H D I hw =>
 wpAny_mono (h pins s σ H D (I.wish _) hw) (fun _ _ q=>q.unwish) fun _ _ z=>False.elim z
end
section
variable {X:Cx} {st:Stmt} {rest:List Stmt} {t u:TS} {e:Expr} {te:TE} {pos:Pos}
def Kr:TS:=fun D σ H=>D.nx σ H
def KH (t u:TS):TS:=fun D σ H=>t { D with nx:=u D } σ H
theorem bK:PSs X [] Kr:=fun _ _ σ H _ I h=>wpAny_execs_nil ⟨σ,H,I,h⟩
theorem aB (h1:PS X st t) (h2:PSs X rest u):PSs X (st :: rest) (KH t u):=by
 intro pins s σ H D I h
 refine wpAny_execs_cons (thn (h1 pins s σ H { D with nx:=u D } I h) fun f s1 q=>?_)
 cases f with
 | next =>
  obtain ⟨σ',H',I',q⟩:=q
  exact h2 pins s1 σ' H' D I' q
 | ret v=>exact q
 | brk=>exact q
 | cont=>exact q
theorem aC (h1:PS X st t):PSs X [st] t:=by
 intro pins s σ H D I h
 refine wpAny_execs_cons (thn (h1 pins s σ H D I h) fun f s1 q=>?_)
 cases f with
 | next=>exact wpAny_execs_nil q
 | ret v=>exact q
 | brk=>exact q
 | cont=>exact q
theorem Inv.quiet {pins:List (Addr × Obj)} {σ:St} {H:Hp} {s:Shared} (I:Inv X pins σ H s):interactive X.env=false:=by simp [interactive,I.ok.kind]
def Lr (te:TE):TS:=fun D σ H=>te σ H fun _ H1=>D.nx σ H1
theorem eN (he:PE X e te) (hs:swapsWith e none pos.line X.env=pure false:=by rfl):PS X (.Expr e pos) (Lr te):=by
 intro pins s σ H D I h
 exact wpAny_Expr_any (thn (he pins s σ H _ I h) fun v s1 ⟨x,H1,I1,r1,q1⟩=>⟨σ,H1,I1,q1⟩) I.quiet hs
def Nb (te:TE):TS:=fun D σ H=>te σ H D.rt
theorem aR (he:PE X e te):PS X (.Return (some e) pos) (Nb te):=by
 intro pins s σ H D I h
 exact wpAny_Return_some (thn (he pins s σ H _ I h) fun v s1 ⟨x,H1,I1,r1,q1⟩=>⟨x,σ,H1,I1,r1,q1⟩)
def Mv (c:TT) (t u:TS):TS:=fun D σ H=>c σ H fun b H1=>if b=true then t D σ H1 else u D σ H1
theorem dW {c:Expr} {a b:List Stmt} {tc:TT} (hc:PT X c tc) (ha:PSs X a t) (hb:PSs X b u):PS X (.If c a b pos) (Mv tc t u):=by
 intro pins s σ H D I h
 refine wpAny_If (thn (hc pins s σ H _ I h) fun d s1 ⟨H1,I1,q1⟩=>?_)
 cases d with
 | true=>exact ha pins s1 σ H1 D I1 q1
 | false=>exact hb pins s1 σ H1 D I1 q1
end
abbrev TG:=V→St→Hp→(St→Hp→Prop)→Prop
abbrev TGs:=List V→St→Hp→(St→Hp→Prop)→Prop
def PG (X:Cx) (target:Expr) (t:TG):Prop :=
 ∀ (pins:List (Addr × Obj)) (s:Shared) (σ:St) (H:Hp) (v:V) (u:Value) (Q:St→Hp→Prop),Inv X pins σ H s→RelV v u→t v σ H Q →
  wpAny (model X.prog X.w) X.A (assign target X.env u) (fun _ s'=>∃ σ' H',Inv X pins σ' H' s'∧Q σ' H') X.xe s
def PGs (X:Cx) (ts:List Expr) (t:TGs):Prop :=
 ∀ (pins:List (Addr × Obj)) (s:Shared) (σ:St) (H:Hp) (vs:List V) (us:List Value) (Q:St→Hp→Prop),Inv X pins σ H s→Vals vs us→t vs σ H Q →
  wpAny (model X.prog X.w) X.A (assignInOrder ((assignEach ts X.env).map (·.2)) us) (fun _ s'=>∃ σ' H',Inv X pins σ' H' s'∧Q σ' H') X.xe s
abbrev Kd:=V→V→V→Hp→(Hp→Prop)→Prop
def Mh (X:Cx) (t:Kd):Prop :=
 ∀ (pins:List (Addr × Obj)) (s:Shared) (σ:St) (H:Hp) (o i v:V) (ov iv u:Value) (Q:Hp→Prop),Inv X pins σ H s→RelV o ov→RelV i iv→RelV v u→t o i v H Q →
  wpAny (model X.prog X.w) X.A (setItem ov iv u) (fun _ s'=>∃ H',Inv X pins σ H' s'∧Q H') X.xe s
abbrev TIp:=V→V→Hp→VK→Prop
def PIp (X:Cx) (op:Operator) (t:TIp):Prop :=
 ∀ (pins:List (Addr × Obj)) (s:Shared) (σ:St) (H:Hp) (x y:V) (v u:Value) (Q:VK),Inv X pins σ H s→RelV x v→RelV y u→t x y H Q →
  wpAny (model X.prog X.w) X.A (inplaceOp op v u) (EP X pins σ Q) X.xe s
section
variable {X:Cx} {pos:Pos}
def cO (i:Nat):TG:=fun v σ H Q=>Q (σ.set i (some v)) H
theorem aD {i:Nat} {x:Str} (hN:X.N.Nodup) (hi:X.N[i]?=some x) (hx:Loc X.env.scope x) (hf:X.fn x=true∨X.env.scope.names.lookup x=some .local:=by first | exact .inl rfl | exact .inr rfl | assumption):PG X (.Name x pos) (cO i):=by
 intro pins s σ H v u Q I r h
 exact wpAny_assign_Name (jm I hN hi hx r (fun s' I'=>⟨_,H,I',h⟩) hf)
def su:TGs:=fun vs σ H Q=>vs=[]∧Q σ H
def dO (t:TG) (u:TGs):TGs:=fun vs σ H Q=>∃ v r,vs=v :: r∧t v σ H fun σ' H'=>u r σ' H' Q
theorem bU:PGs X [] su:=by
 intro pins s σ H vs us Q I r h
 obtain ⟨e,h⟩:=h
 subst e
 cases r
 exact assignInOrder_nil ⟨σ,H,I,h⟩
theorem aL {e:Expr} {es:List Expr} {t:TG} {u:TGs} (h1:PG X e t) (h2:PGs X es u)
  (hs:(assignEach (e :: es) X.env).map (·.2)=assign e X.env :: (assignEach es X.env).map (·.2):=by rfl):PGs X (e :: es) (dO t u):=by
 intro pins s σ H vs us Q I r h
 obtain ⟨v,vr,e1,h⟩:=h
 subst e1
 cases r with
 | cons r rr =>
  rw [hs]
  refine assignInOrder_cons (thn (h1 pins s σ H _ _ _ I r h) fun _ s1 ⟨σ1,H1,I1,q1⟩=>?_)
  exact h2 pins s1 σ1 H1 _ _ Q I1 rr q1
def qW (K:PySem.W.Frag) (n:Nat) (t:TGs):TG:=fun v σ H Q=>∃ a xs,v=.ref a∧SqT K H a xs∧xs.length=n∧t xs σ H Q
theorem cR {es:List Expr} {k:Nat} {t:TGs} {n:Nat} (hc:X.calm=true) (h:PGs X es t)
  (hn:(assignEach es X.env).length=n:=by rfl) (hst:(assignEach es X.env).findIdx? (·.1)=none:=by rfl):PG X (.Tuple es k pos) (qW X.K n t):=by
 intro pins s σ H v u Q I r hw
 obtain ⟨a,xs,e1,hq,hl,hw⟩:=hw
 subst e1
 cases r
 obtain ⟨its,rv,ht,hz⟩:=I.tuple hq
 refine assign_Tuple_tuple (I.ok.hd hc) ht (by simp [hn,← hl,rv.length]) hst fun h' hx=>?_
 have I1:Inv X pins σ H { s with heap:=h' }:=I.kept (t':=s.toks) fun b o e=>hx b o (Nat.ne_of_lt (Heap.lt_size e)) e
 exact h pins _ σ H xs _ Q I1 (by simpa using rv) hw
def Mx (to ti:TE) (t:Kd):TG:=fun v σ H Q=>to σ H fun o H1=>ti σ H1 fun i H2=>t o i v H2 fun H3=>Q σ H3
theorem xY {o i:Expr} {to ti:TE} {t:Kd} (ho:PE X o to) (hi:PE X i ti) (hs:Mh X t)
  (ha:∀ v,assign (.Subscript o i pos) X.env v=(do
   let ov ← holding [v] (eval o X.env)
   let iv ← holding [v,ov] (eval i X.env)
   standAt pos
   holding [v,ov,iv] (setItem ov iv v)
   release [v,ov,iv] []):=by intro _; rfl):PG X (.Subscript o i pos) (Mx to ti t):=by
 intro pins s σ H v u Q I r h
 rw [ha]
 refine wpAny_bind (wpAny_holding (thn (ho pins s σ H _ I h) fun ov s1 ⟨x,H1,I1,r1,q1⟩=>?_))
 refine wpAny_bind (wpAny_holding (thn (hi pins s1 σ H1 _ I1 q1) fun iv s2 ⟨y,H2,I2,r2,q2⟩=>?_))
 refine wpAny_bind (wpAny_standAt (wpAny_bind (wpAny_holding (thn (hs pins s2 σ H2 x y v ov iv u _ I2 r1 r2 r q2) fun _ s3 ⟨H3,I3,q3⟩=>?_))))
 exact wpAny_release ⟨σ,H3,I3,q3⟩
def JV (te:TE) (g:TG):TS:=fun D σ H=>te σ H fun x H1=>g x σ H1 D.nx
theorem jO {tg e:Expr} {te:TE} {g:TG} (he:PE X e te) (hg:PG X tg g) (hs:swapsWithSole [tg] e pos.line X.env=pure false:=by rfl) (hw:swappedStores [tg] e X.env=pure none:=by rfl)
  (h1:(assignEach [tg] X.env).map (·.2)=[assign tg X.env]:=by rfl):PS X (.Assign [tg] e pos) (JV te g):=by
 intro pins s σ H D I h
 refine wpAny_Assign_stores (thn (he pins s σ H _ I h) fun v s1 ⟨x,H1,I1,r1,q1⟩=>?_) hs hw
 rw [h1]
 exact thn (hg pins s1 σ H1 x v _ I1 r1 q1) fun _ s2 q=>q
theorem aW {i:Nat} {x:Str} {e:Expr} {te:TE} {pos':Pos} (hN:X.N.Nodup) (hi:X.N[i]?=some x) (hx:Loc X.env.scope x) (he:PE X e te) (hs:swapsWith e (some (.Name x pos')) pos.line X.env=pure false:=by rfl) (hf:X.fn x=true∨X.env.scope.names.lookup x=some .local:=by first | exact .inl rfl | exact .inr rfl | assumption) :
  PS X (.Assign [.Name x pos'] e pos) (JV te (cO i)):=by
 intro pins s σ H D I h
 refine wpAny_Assign_Name (thn (he pins s σ H _ I h) fun v s1 ⟨y,H1,I1,r1,q1⟩=>?_) hs
 exact jm I1 hN hi hx r1 (fun s2 I2=>⟨_,H1,I2,q1⟩) hf
def Nt (i j:Nat) (ta:TA):TS:=fun D σ H=>ta σ H fun vs H1=>∃ v w,vs=[v,w]∧D.nx ((σ.set i (some v)).set j (some w)) H1
theorem HF {i j:Nat} {x y:Str} {a b:Expr} {ta:TA} {px py pt:Pos} {kt k2 pt2} (hc:X.calm=true) (hN:X.N.Nodup) (hi:X.N[i]?=some x) (hj:X.N[j]?=some y) (hij:i≠j)
  (hx:X.env.scope.names.lookup x=some .local) (hy:X.env.scope.names.lookup y=some .local) (ha:PA X [a,b] ta)
  (hw:swappedStores [.Tuple [.Name x px,.Name y py] kt pt] (.Tuple [a,b] k2 pt2) X.env=pure (some [x,y]))
  (hs:swapsWithSole [.Tuple [.Name x px,.Name y py] kt pt] (.Tuple [a,b] k2 pt2) pos.line X.env=pure false:=by rfl) :
  PS X (.Assign [.Tuple [.Name x px,.Name y py] kt pt] (.Tuple [a,b] k2 pt2) pos) (Nt i j ta):=by
 intro pins s σ H D I h
 rw [exec_Assign_arm]
 refine wpAny_bind (wpAny_standAt ?_)
 rw [hs]
 refine wpAny_bind (wpAny_pure ?_)
 rw [if_neg (by decide)]
 refine wpAny_bind (Tuple_ (thn (ha _ pins s σ H _ I h) fun us s1 ⟨vs,H1,I1,r1,q1⟩=>?_))
 obtain ⟨v,w,e1,q1⟩:=q1
 subst e1
 obtain ⟨u1,u2,rfl,rv,rw'⟩:∃ u1 u2,us=[u1,u2]∧RelV v u1∧RelV w u2:=by
  cases r1 with
  | cons p q =>
   cases q with
   | cons p' q' =>
    cases q'
    exact ⟨_,_,rfl,p,p'⟩
 refine wpAny_newObj_type ?_ (by show 2≤sizeLine; decide)
 have I2:Inv X pins σ H1 { s1 with heap:=s1.heap.push { cls:=.type "tuple",data:=.seq [u1,u2].toArray } }:=I1.kept (t':=s1.toks) fun b o e=>Heap.get?_push_of_some _ e
 rw [hw]
 refine wpAny_bind (wpAny_pure ?_)
 show wpAny (model X.prog X.w) X.A (do rule "assign.swapped-stores"; let items ← unpackItems (.ref s1.heap.objs.size) 2 none; assignInOrder [fun v=>bindName X.env y v,fun v=>bindName X.env x v] items.reverse; pure Flow.next) _ _ _
 refine wpAny_bind (wpAny_rule (wpAny_bind (unpackItems_tuple (items:=#[u1,u2]) (I.ok.hd hc) (IsTup.new s1.heap _) fun h' hx'=>?_)))
 have I3:=I2.kept (h':=h') (t':=s1.toks) fun b o e=>hx' b o (Nat.ne_of_lt (Heap.lt_size e)) e
 show wpAny _ _ (assignInOrder [fun v=>bindName X.env y v,fun v=>bindName X.env x v] [u2,u1] >>= fun _=>pure Flow.next) _ _ _
 refine wpAny_bind (assignInOrder_cons (wpAny_bindName (jm I3 hN hj (.inl hy) rw' (fun s2 I4=>?_) (.inr hy))))
 refine assignInOrder_cons (wpAny_bindName (jm I4 hN hi (.inl hx) rv (fun s3 I5=>assignInOrder_nil (wpAny_pure ?_)) (.inr hx)))
 rw [List.set_comm _ _ (Ne.symm hij)] at I5
 exact ⟨_,H1,I5,q1⟩
def M6 (i:Nat) (te:TE) (ti:TIp):TS:=fun D σ H=>∃ x,σ[i]?=some (some x)∧te σ H fun y H1=>ti x y H1 fun z H2=>D.nx (σ.set i (some z)) H2
theorem Dr {i:Nat} {x:Str} {e:Expr} {te:TE} {op:Operator} {ti:TIp} {pos':Pos} (hN:X.N.Nodup) (hi:X.N[i]?=some x) (hx:Loc X.env.scope x) (he:PE X e te) (ho:PIp X op ti) (hf:X.fn x=true∨X.env.scope.names.lookup x=some .local:=by first | exact .inl rfl | exact .inr rfl | assumption) :
  PS X (.AugAssign (.Name x pos') op e pos) (M6 i te ti):=by
 intro pins s σ H D I h
 obtain ⟨v,e1,h⟩:=h
 obtain ⟨m,hn,hl⟩:=I.loc
 have vis:Vis X.env.scope x:=by rcases hx with k | k; exact .inl k; exact .inr (.inl k)
 obtain ⟨u,r,l⟩:=hl i x v hi e1 vis
 refine wpAny_AugAssign_Name ?_
 have go:wpAny (model X.prog X.w) X.A (eval e X.env) (fun w s₂=>wpAny (model X.prog X.w) X.A (inplaceOp op u w) (fun r s₃=>wpAny (model X.prog X.w) X.A (storeName X.env x r) (fun _=>SP X pins D .next) X.xe s₃) X.xe s₂) X.xe s:=by
  refine thn (he pins s σ H _ I h) fun w s1 ⟨y,H1,I1,r1,q1⟩=>?_
  refine thn (ho pins s1 σ H1 v y u w _ I1 r r1 q1) fun z s2 ⟨zv,H2,I2,r2,q2⟩=>?_
  exact jm I2 hN hi hx r2 (fun s3 I3=>⟨_,H2,I3,q2⟩) hf
 rcases l with ⟨hk,hm⟩ | ⟨hk,c,hc,hcell⟩
 ·exact wpAny_loadName_local I.ok.kind hk hn hm go
 ·rcases hk with hk | hk
  ·exact wpAny_loadName_cell I.ok.kind hk hc hcell go
  ·rcases hx with k | k
   ·have:X.env.scope.names.lookup x=some .free:=hk
    rw [k] at this; cases this
   ·have:X.env.scope.names.lookup x=some .free:=hk
    rw [k] at this; cases this
end
section
variable {X:Cx} {pos:Pos}
def Jr (c:TT) (tb:TS):TS:=fun D σ H=>∃ W:Nat→St→Hp→Prop,(∃ m,W m σ H)∧∀ m σ H,W m σ H →
 c σ H fun b H1=>if b=true then ∃ N:St→Hp→Prop,(∀ σ' H',N σ' H'→∃ m',m' < m∧W m' σ' H')∧tb { D with nx:=N,ct:=N,bk:=D.nx } σ H1 else D.nx σ H1
theorem oA {c:Expr} {body:List Stmt} {tc:TT} {tb:TS} (hp:PassesOwn (model X.prog X.w) X.A X.env X.xe) (hc:PT X c tc) (hb:PSs X body tb):PS X (.While c body [] pos) (Jr tc tb):=by
 intro pins s σ H D I h
 obtain ⟨W,⟨m0,w0⟩,turn⟩:=h
 refine wpAny_While (codeAny_whileLoop (fun n s'=>∃ σ' H',Inv X pins σ' H' s'∧W n σ' H') ?_ m0 ⟨σ,H,I,w0⟩)
 rintro n s1 ⟨σ1,H1,I1,w1⟩
 refine wpAny_passesOwn hp (thn (hc pins s1 σ1 H1 _ I1 (turn n σ1 H1 w1)) fun b s2 ⟨H2,I2,q2⟩=>?_)
 cases b with
 | true =>
  obtain ⟨N,hN,q2⟩:=q2
  rw [if_pos rfl]
  refine wpAny_passesOwn hp (thn (hb pins s2 σ1 H2 _ I2 q2) fun f s3 q3=>?_)
  cases f with
  | next =>
   obtain ⟨σ3,H3,I3,n3⟩:=q3
   obtain ⟨m',hm,w3⟩:=hN σ3 H3 n3
   exact ⟨m',hm,σ3,H3,I3,w3⟩
  | cont =>
   obtain ⟨σ3,H3,I3,n3⟩:=q3
   obtain ⟨m',hm,w3⟩:=hN σ3 H3 n3
   exact ⟨m',hm,σ3,H3,I3,w3⟩
  | brk=>exact q3
  | ret v=>exact q3
 | false =>
  rw [if_neg Bool.false_ne_true]
  exact wpAny_execs_nil ⟨σ1,H2,I2,q2⟩
end
structure It where
 go:Nat→Hp→Prop
 yld:Nat→Hp→V→Hp→Prop
 stop:Nat→Hp→Prop
def vd (X:Cx) (pins:List (Addr × Obj)) (H:Hp) (b:Addr):Prop :=
 H b=none∧b≠X.env.locals∧b ∉ X.fs∧(b∈X.ex∨X.s₀.heap.objs.size≤b)∧(∀ x c,X.env.cells.lookup x=some c→c≠b)∧∀ p∈X.pn++pins,p.1≠b
theorem Inv.fpOk {X:Cx} {pins:List (Addr × Obj)} {σ:St} {H H':Hp} {s:Shared} {b:Addr} (I:Inv X pins σ H s) (hb:s.heap.objs.size≤b) (hn:H' b=none):vd X pins H' b:=by
 refine ⟨hn,Nat.ne_of_gt (Nat.lt_of_lt_of_le I.lt hb),I.nofs hb,.inr (Nat.le_trans I.sz hb),fun x c e z=>?_,fun p hp z=>?_⟩
 ·obtain ⟨v,q⟩:=I.cell x c e
  exact absurd (Nat.lt_of_lt_of_le q.lt (by rw [z]; exact hb)) (Nat.lt_irrefl _)
 ·exact absurd (Nat.lt_of_lt_of_le (Heap.lt_size (I.pin p hp).1) (by rw [z]; exact hb)) (Nat.lt_irrefl _)
structure Turn (P:Program) (w:World) (K:PySem.W.Frag) (tg:Expr) (J:It) (fp:List Addr) (it:Addr) (tn:Nat→Heap→Prop):Prop where
 mem:it∈fp
 obj:∀ i h,tn i h→∀ b∈fp,∃ o,h.get? b=some o∧∀ v,o.data≠.cell v
 keep:∀ i h h',tn i h→(∀ b∈fp,∀ o,h.get? b=some o→h'.get? b=some o)→tn i h'
 item:∀ (X:Cx),X.prog=P→X.w=w→X.K=K→X.calm=true→∀ (i:Nat) (pins:List (Addr × Obj)) (s:Shared) (σ:St) (H:Hp) (E:Value→Shared→Prop),Inv X pins σ H s→(∀ b∈fp,vd X pins H b)→tn i s.heap→J.go i H →
  wpAny (model P w) X.A (pyNext (.ref it)) (fun r s1=>∃ u,r=some u ∧
   wpAny (model P w) X.A (letOwnedTupleGo tg (.ref it) u) (fun _ s2=>∃ x H',Inv X pins σ H' s2∧RelV x u∧J.yld i H x H'∧tn (i+1) s2.heap∧∀ b∈fp,H' b=none) E s1) E s
 done:∀ (X:Cx),X.prog=P→X.w=w→X.K=K→X.calm=true→∀ (i:Nat) (pins:List (Addr × Obj)) (s:Shared) (σ:St) (H:Hp) (E:Value→Shared→Prop),Inv X pins σ H s→(∀ b∈fp,vd X pins H b)→tn i s.heap→J.stop i H →
  wpAny (model P w) X.A (pyNext (.ref it)) (fun r s1=>r=none∧Inv X pins σ H s1) E s
 self:∀ (A:Around) (i:Nat) (s:Shared) (Q:Value→Shared→Prop) (E:Value→Shared→Prop),tn i s.heap→Q (.ref it) s→wpAny (model P w) A (pyIter (.ref it)) Q E s
abbrev TI:=St→Hp→(It→Hp→Prop)→Prop
def PIE (X:Cx) (pins:List (Addr × Obj)) (σ:St) (tg:Expr) (R:It→Hp→Prop) (itv:Value) (s2:Shared):Prop :=
 ∃ (it:Addr) (fp:List Addr) (tn:Nat→Heap→Prop) (J:It) (H':Hp),itv=.ref it∧Inv X pins σ H' s2∧Turn X.prog X.w X.K tg J fp it tn∧tn 0 s2.heap∧(∀ b∈fp,vd X pins H' b)∧R J H'
def PI (X:Cx) (tg iter:Expr) (wi:TI):Prop :=
 ∀ (pins:List (Addr × Obj)) (s:Shared) (σ:St) (H:Hp) (R:It→Hp→Prop),Inv X pins σ H s→wi σ H R →
  wpAny (model X.prog X.w) X.A (eval iter X.env) (fun v s1=>wpAny (model X.prog X.w) X.A (pyIter v) (PIE X pins σ tg R) X.xe s1) X.xe s
theorem vY {M:Model} {A:Around} {E:Value→Shared→Prop} {s:Shared} {tg:Expr} {it:Addr} {u:Value} {o:Obj} {n:String} {vs:Array Value} {Q:Unit→Shared→Prop} (ho:s.heap.get? it=some o) (hc:o.cls=.type n) (hd:o.data=.fields vs)
    (hn:["enumerate", "zip", "dict_itemiterator", "dict_reverseitemiterator", "odict_iterator", "itertools.zip_longest", "itertools.pairwise"].contains n=false) (hQ:Q () s):wpAny M A (letOwnedTupleGo tg (.ref it) u) Q E s:=by
  unfold letOwnedTupleGo
  cases tg <;> first
    | exact wpAny_pure hQ
    | (cases u <;> first
        | exact wpAny_pure hQ
        | (refine wpAny_bind (wpAny_load ho ?_)
           rw [hc,hd]
           show wpAny M A (if (["enumerate", "zip", "dict_itemiterator", "dict_reverseitemiterator", "odict_iterator", "itertools.zip_longest", "itertools.pairwise"].contains n && vs[0]? == some (rawInt _))=true then _ else _) Q E s
           rw [if_neg (by intro h; rw [hn,Bool.false_and] at h; cases h)]
           exact wpAny_pure hQ))
def Itl (K:PySem.W.Frag) (a:Addr):It :=
 ⟨fun i H=>∃ xs x,SqL K H a xs∧xs[i]?=some x,fun i H x H'=>H'=H∧∀ xs,SqL K H a xs→xs[i]?=some x,fun i H=>∃ xs,SqL K H a xs∧xs.length≤i⟩
def Itt (K:PySem.W.Frag) (a:Addr):It :=
 ⟨fun i H=>∃ xs x,SqT K H a xs∧xs[i]?=some x,fun i H x H'=>H'=H∧∀ xs,SqT K H a xs→xs[i]?=some x,fun i H=>∃ xs,SqT K H a xs∧xs.length≤i⟩
def Itr (lo:Int) (n:Nat):It:=⟨fun i _=>i < n,fun i H x H'=>H'=H∧x=.int (lo+i),fun i _=>n≤i⟩
theorem wG {P:Program} {w:World} {K:PySem.W.Frag} {tg:Expr} (a it:Addr):Turn P w K tg (Itl K a) [it] it (fun i h=>h.IsListIter it a i) where
 mem:=by simp
 obj:=fun i h st b hb=>by
  have e:b=it:=by simpa using hb
  subst e
  obtain ⟨o,e,c,d⟩:=st
  exact ⟨o,e,fun v z=>by rw [d] at z; cases z⟩
 keep:=fun i h h' st k=>st.at fun o e=>k it (by simp) o e
 item:=by
  intro X hP hw hK hc i pins s σ H E I hf st hg
  subst hP hw hK
  obtain ⟨xs,x,hq,hx⟩:=hg
  obtain ⟨its,rv,p,hz⟩:=I.list hq
  obtain ⟨u,hu,ru⟩:=rv.get hx
  obtain ⟨f0,f1,f2,f3,f4,f5⟩:=hf it (by simp)
  refine wpAny_pyNext_list_item st p.isList (x:=u) (by simpa using hu) fun h' st' sb=>?_
  have I1:Inv X pins σ H { s with heap:=h' }:=I.turned (t':=s.toks) (fun b o hb e=>(sb.2 b hb).trans e) f0 f1 f3 f4 f5
  obtain ⟨o,e,c,d⟩:=id st'
  exact ⟨u,rfl,vY (s:={ s with heap:=h' }) e c d (by decide) ⟨x,H,I1,ru,⟨rfl,fun ys hy=>by rw [I.list_inj hy hq]; exact hx⟩,st',fun b hb=>(hf b hb).1⟩⟩
 done:=by
  intro X hP hw hK hc i pins s σ H E I hf st hg
  subst hP hw hK
  obtain ⟨xs,hq,hx⟩:=hg
  obtain ⟨its,rv,p,hz⟩:=I.list hq
  obtain ⟨f0,f1,f2,f3,f4,f5⟩:=hf it (by simp)
  have hl:=rv.length
  exact wpAny_pyNext_list_end (I.ok.hd hc) st p.isList (by simp; omega) fun h' eb=>⟨rfl,I.turned (t':=s.toks) (fun b o hb e=>eb b o hb e) f0 f1 f3 f4 f5⟩
 self:=fun _ _ _ _ _ st h=>wpAny_pyIter_listiter st h
theorem vL {P:Program} {w:World} {K:PySem.W.Frag} {tg:Expr} (a it:Addr):Turn P w K tg (Itt K a) [it] it (fun i h=>h.IsTupleIter it a i) where
 mem:=by simp
 obj:=fun i h st b hb=>by
  have e:b=it:=by simpa using hb
  subst e
  obtain ⟨o,e,c,d⟩:=st
  exact ⟨o,e,fun v z=>by rw [d] at z; cases z⟩
 keep:=fun i h h' st k=>st.at fun o e=>k it (by simp) o e
 item:=by
  intro X hP hw hK hc i pins s σ H E I hf st hg
  subst hP hw hK
  obtain ⟨xs,x,hq,hx⟩:=hg
  obtain ⟨its,rv,p,hz⟩:=I.tuple hq
  obtain ⟨u,hu,ru⟩:=rv.get hx
  obtain ⟨f0,f1,f2,f3,f4,f5⟩:=hf it (by simp)
  refine wpAny_pyNext_tuple_item st (show s.heap.IsTuple a its.toArray from p) (x:=u) (by simpa using hu) fun h' st' sb=>?_
  have I1:Inv X pins σ H { s with heap:=h' }:=I.turned (t':=s.toks) (fun b o hb e=>(sb.2 b hb).trans e) f0 f1 f3 f4 f5
  obtain ⟨o,e,c,d⟩:=id st'
  exact ⟨u,rfl,vY (s:={ s with heap:=h' }) e c d (by decide) ⟨x,H,I1,ru,⟨rfl,fun ys hy=>by rw [I.tuple_inj hy hq]; exact hx⟩,st',fun b hb=>(hf b hb).1⟩⟩
 done:=by
  intro X hP hw hK hc i pins s σ H E I hf st hg
  subst hP hw hK
  obtain ⟨xs,hq,hx⟩:=hg
  obtain ⟨its,rv,p,hz⟩:=I.tuple hq
  obtain ⟨f0,f1,f2,f3,f4,f5⟩:=hf it (by simp)
  have hl:=rv.length
  exact wpAny_pyNext_tuple_end (I.ok.hd hc) st (show s.heap.IsTuple a its.toArray from p) (by simp; omega) fun h' eb=>⟨rfl,I.turned (t':=s.toks) (fun b o hb e=>eb b o hb e) f0 f1 f3 f4 f5⟩
 self:=fun _ _ _ _ _ st h=>wpAny_pyIter_tupleiter st h
theorem vp {P:Program} {w:World} {K:PySem.W.Frag} {tg:Expr} (it:Addr) (lo:Int) (n:Nat):Turn P w K tg (Itr lo n) [it] it (fun i h=>IsRangeIter h it (lo+(i:Nat) * 1) ((n:Int) - (i:Nat)) 1) where
 mem:=by simp
 obj:=fun i h st b hb=>by
  have e:b=it:=by simpa using hb
  subst e
  exact ⟨_,st,fun v z=>by
   have z':Data.fields _=Data.cell v:=z
   cases z'⟩
 keep:=fun i h h' st k=>k it (by simp) _ st
 item:=by
  intro X hP hw hK hc i pins s σ H E I hf st hg
  subst hP hw hK
  obtain ⟨f0,f1,f2,f3,f4,f5⟩:=hf it (by simp)
  have W:=Walks.range (prog:=X.prog) (w:=X.w) (I.ok.hd hc) it lo 1 n
  refine W.item i s _ _ hg st fun v h' tk hv st' kk=>?_
  obtain ⟨t,rfl⟩:=hv
  have I1:Inv X pins σ H { s with heap:=h',toks:=tk }:=I.turned (fun b o hb e=>kk b o (by simpa using hb) e) f0 f1 f3 f4 f5
  refine ⟨_,rfl,vY (s:={ s with heap:=h',toks:=tk }) (n:="range_iterator") st' rfl rfl (by decide) ⟨.int (lo+i),H,I1,⟨t,?_⟩,⟨rfl,rfl⟩,st',fun b hb=>(hf b hb).1⟩⟩
  rw [Int.mul_one]
 done:=by
  intro X hP hw hK hc i pins s σ H E I hf st hg
  subst hP hw hK
  obtain ⟨f0,f1,f2,f3,f4,f5⟩:=hf it (by simp)
  exact wpAny_pyNext_range_end (I.ok.hd hc) st (by have:n≤i:=hg; omega) fun h' eb=>⟨rfl,I.turned (t':=s.toks) (fun b o hb e=>eb b o hb e) f0 f1 f3 f4 f5⟩
 self:=fun _ _ _ _ _ st h=>wpAny_pyIter_rangeiter st h
end L2
namespace L2
open PySem PySem.Spec PyProof.Rows
section
variable {X:Cx} {tg:Expr}
def El (K:PySem.W.Frag) (tl:TE):TI:=fun σ H R=>tl σ H fun x H1=>∃ a,x=.ref a∧(∃ xs,SqL K H1 a xs)∧R (Itl K a) H1
def Ny (K:PySem.W.Frag) (tl:TE):TI:=fun σ H R=>tl σ H fun x H1=>∃ a,x=.ref a∧(∃ xs,SqT K H1 a xs)∧R (Itt K a) H1
theorem cZ {l:Expr} {tl:TE} (hl:PE X l tl):PI X tg l (El X.K tl):=by
 intro pins s σ H R I h
 refine thn (hl pins s σ H _ I h) fun v s1 ⟨x,H1,I1,r1,q1⟩=>?_
 obtain ⟨a,e,⟨xs,hq⟩,q⟩:=q1
 subst e
 cases r1
 obtain ⟨its,rv,p,hz⟩:=I1.list hq
 refine wpAny_pyIter_list p.isList ?_
 refine ⟨s1.heap.objs.size,[s1.heap.objs.size],_,_,H1,rfl,I1.kept (t':=s1.toks) fun b o e=>Heap.get?_push_of_some _ e,wG a _,⟨_,Heap.get?_push_size _ rfl,rfl,rfl⟩,fun b hb=>?_,q⟩
 have e:b=s1.heap.objs.size:=by simpa using hb
 subst e
 exact I1.fpOk (Nat.le_refl _) (I1.hok.fresh (Nat.le_refl _))
theorem cI {l:Expr} {tl:TE} (hl:PE X l tl):PI X tg l (Ny X.K tl):=by
 intro pins s σ H R I h
 refine thn (hl pins s σ H _ I h) fun v s1 ⟨x,H1,I1,r1,q1⟩=>?_
 obtain ⟨a,e,⟨xs,hq⟩,q⟩:=q1
 subst e
 cases r1
 obtain ⟨its,rv,p,hz⟩:=I1.tuple hq
 refine wpAny_pyIter_tuple (show s1.heap.IsTuple a its.toArray from p) ?_
 refine ⟨s1.heap.objs.size,[s1.heap.objs.size],_,_,H1,rfl,I1.kept (t':=s1.toks) fun b o e=>Heap.get?_push_of_some _ e,vL a _,⟨_,Heap.get?_push_size _ rfl,rfl,rfl⟩,fun b hb=>?_,q⟩
 have e:b=s1.heap.objs.size:=by simpa using hb
 subst e
 exact I1.fpOk (Nat.le_refl _) (I1.hok.fresh (Nat.le_refl _))
theorem Bj {pins:List (Addr × Obj)} {σ:St} {H:Hp} {s:Shared} {R:It→Hp→Prop} {E:Value→Shared→Prop} {lo hi:Int} {t u v:Tok} {tk:Nat} (I:Inv X pins σ H s) (h1:-(2 ^ 62)≤lo) (h2:lo < 2 ^ 62) (h3:-(2 ^ 62)≤hi) (h4:hi < 2 ^ 62)
  (q:R (Itr lo (hi - lo).toNat) H):wpAny (model X.prog X.w) X.A (pyIter (.ref s.heap.objs.size)) (PIE X pins σ tg R) E { s with heap:=s.heap.push { cls:=.type "range",data:=.fields #[.int lo t,.int hi u,.int 1 v] },toks:=tk }:=by
 refine wpAny_pyIter_range (IsRange.new ..) (small_one h1 h2 h3 h4) ?_
 have I1:Inv X pins σ H { s with heap:=s.heap.push { cls:=.type "range",data:=.fields #[.int lo t,.int hi u,.int 1 v] },toks:=tk }:=I.kept fun b o e=>Heap.get?_push_of_some _ e
 refine ⟨(s.heap.push { cls:=.type "range",data:=.fields #[.int lo t,.int hi u,.int 1 v] }).objs.size,[(s.heap.push { cls:=.type "range",data:=.fields #[.int lo t,.int hi u,.int 1 v] }).objs.size],_,_,H,rfl,
  I1.kept (t':=tk) fun b o e=>Heap.get?_push_of_some _ e,vp _ lo (hi - lo).toNat,?_,fun b hb=>?_,q⟩
 ·have e1:lo+((0:Nat):Int) * 1=lo:=by simp
  have e2:(((hi - lo).toNat:Nat):Int) - ((0:Nat):Int)=Builtin.Range.rangeSize lo hi 1:=by rw [rangeSize_one]; split <;> omega
  show IsRangeIter _ _ (lo+((0:Nat):Int) * 1) ((((hi - lo).toNat:Nat):Int) - ((0:Nat):Int)) 1
  rw [e1,e2]
  exact Heap.get?_push_size _ rfl
 ·have e:b=(s.heap.push { cls:=.type "range",data:=.fields #[.int lo t,.int hi u,.int 1 v] }).objs.size:=by simpa using hb
  subst e
  exact I1.fpOk (Nat.le_refl _) (I1.hok.fresh (Nat.le_refl _))
def J6 (ta:TA):TI:=fun σ H R=>ta σ H fun vs H1=>∃ j:Int,vs=[.int j]∧-(2 ^ 62)≤j∧j < 2 ^ 62∧R (Itr 0 j.toNat) H1
theorem dH {a:Expr} {ta:TA} {p pos:Pos} (hg:Gl X "range") (hm:X.mg "range" = none) (ha:PA X [a] ta) (hs:starEach [a] X.env=[(false,eval a X.env)]:=by rfl):PI X tg (.Call (.Name "range" p) [a] [] pos) (J6 ta):=by
 intro pins s σ H R I h
 refine Call_ (jT I hg hm boot_range (PyProof.Rows.callWith_type1 (thn (ha pos pins s σ H _ I h) fun us s1 ⟨vs,H1,I1,r1,q1⟩=>?_) hs rfl))
 obtain ⟨j,e,q1,q2,q⟩:=q1
 subst e
 cases r1 with
 | cons r rr =>
  cases rr
  obtain ⟨t,rfl⟩:=r
  exact call_range_1 (Bj I1 (by omega) (by omega) q1 q2 (by simpa using q))
def Mq (wi:TI) (g:TG) (tb:TS):TS:=fun D σ H=>wi σ H fun J H1=>∃ W:Nat→Nat→St→Hp→Prop,(∃ m,W 0 m σ H1)∧∀ i m σ H,W i m σ H →
 (J.stop i H∧D.nx σ H)∨(J.go i H∧∃ N:St→Hp→Prop,(∀ σ' H',N σ' H'→∃ m',m' < m∧W (i+1) m' σ' H')∧∀ x H',J.yld i H x H'→g x σ H' fun σ2 H2=>tb { D with nx:=N,ct:=N,bk:=D.nx } σ2 H2)
def mC (fp:List Addr) (h:Heap):List (Addr × Obj):=fp.filterMap fun b=>(h.get? b).map fun o=>(b,o)
theorem fj {fp:List Addr} {h:Heap} {b:Addr} {o:Obj} (hb:b∈fp) (e:h.get? b=some o):(b,o)∈mC fp h:=List.mem_filterMap.mpr ⟨b,hb,by rw [e]; rfl⟩
theorem zR {fp:List Addr} {h:Heap} {p:Addr × Obj} (hp:p∈mC fp h):p.1∈fp∧h.get? p.1=some p.2:=by
 obtain ⟨b,hb,e⟩:=List.mem_filterMap.mp hp
 cases q:h.get? b with
 | none=>rw [q] at e; cases e
 | some o =>
  rw [q] at e
  have e':(b,o)=p:=Option.some.inj e
  subst e'
  exact ⟨hb,q⟩
theorem Inv.pinned {pins:List (Addr × Obj)} {σ:St} {H:Hp} {s:Shared} {fp:List Addr} (I:Inv X pins σ H s) (hf:∀ b∈fp,vd X pins H b) (ho:∀ b∈fp,∃ o,s.heap.get? b=some o∧∀ v,o.data≠.cell v):Inv X (pins++mC fp s.heap) σ H s :=
 I.pins_of fun p hp=>(List.mem_append.mp hp).elim (fun z=>I.pin p (List.mem_append_right _ z)) fun z=>by
  obtain ⟨hb,e⟩:=zR z
  obtain ⟨f0,f1,f2,_⟩:=hf p.1 hb
  obtain ⟨o,e',d⟩:=ho p.1 hb
  rw [e] at e'; cases e'
  exact ⟨e,f0,f1,f2,d⟩
theorem Inv.unpinned {pins pl:List (Addr × Obj)} {σ:St} {H:Hp} {s:Shared} (I:Inv X (pins++pl) σ H s):Inv X pins σ H s:=I.pins_of fun p hp=>I.pin p (List.mem_append_right _ (List.mem_append_left _ hp))
theorem cW {iter:Expr} {body:List Stmt} {wi:TI} {g:TG} {tb:TS} {pos:Pos} (hp:PassesOwn (model X.prog X.w) X.A X.env X.xe) (hc:X.calm=true) (hi:PI X tg iter wi) (hg:PG X tg g) (hb:PSs X body tb)
  (hs:∀ x,foldedSetIterable iter X.env x=pure x:=by intro _; rfl):PS X (.For tg iter body [] pos) (Mq wi g tb):=by
 intro pins s σ H D I h
 refine wpAny_For (thn (hi pins s σ H _ I h) fun v s1 h1=>thn h1 fun itv s2 h2=>?_) hs
 obtain ⟨it,fp,tn,J,H2,e,I2,T,st2,f2,W,⟨m0,w0⟩,turn⟩:=h2
 subst e
 have stat:∀ {H':Hp},(∀ b∈fp,H' b=none)→∀ b∈fp,vd X pins H' b:=fun hn b hb=>⟨hn b hb,(f2 b hb).2⟩
 refine codeAny_forLoop_any (fun n s'=>∃ i σ' H',Inv X pins σ' H' s'∧tn i s'.heap∧(∀ b∈fp,H' b=none)∧W i n σ' H') ?_ m0 ⟨0,σ,H2,I2,st2,fun b hb=>(f2 b hb).1,w0⟩
 rintro n s3 ⟨i,σ3,H3,I3,st3,fr3,w3⟩
 rcases turn i n σ3 H3 w3 with ⟨stop,qn⟩ | ⟨go,N,hN,step⟩
 ·refine wpAny_passesOwn hp (thn (T.done X rfl rfl rfl hc i pins s3 σ3 H3 X.xe I3 (stat fr3) st3 stop) fun r s4 ⟨hr,I4⟩=>?_)
  subst hr
  exact wpAny_execs_nil ⟨σ3,H3,I4,qn⟩
 ·refine wpAny_passesOwn hp (thn (T.item X rfl rfl rfl hc i pins s3 σ3 H3 X.xe I3 (stat fr3) st3 go) fun r s4 ⟨u,hr,h4⟩=>?_)
  subst hr
  refine wpAny_passesOwn hp (thn h4 fun _ s5 ⟨x,H5,I5,r5,y5,st5,fr5⟩=>?_)
  have I5':=I5.pinned (stat fr5) (T.obj _ _ st5)
  refine wpAny_passesOwn hp (thn (hg _ s5 σ3 H5 x u _ I5' r5 (step x H5 y5)) fun _ s6 ⟨σ6,H6,I6,q6⟩=>?_)
  refine wpAny_passesOwn hp (thn (hb _ s6 σ6 H6 _ I6 q6) fun f s7 q7=>?_)
  have again:∀ {σ7:St} {H7:Hp},Inv X (pins++mC fp s5.heap) σ7 H7 s7→N σ7 H7→∃ m,m < n∧∃ i σ' H',Inv X pins σ' H' s7∧tn i s7.heap∧(∀ b∈fp,H' b=none)∧W i m σ' H':=fun {σ7 H7} I7 n7=>by
   obtain ⟨m',hm,w7⟩:=hN σ7 H7 n7
   refine ⟨m',hm,i+1,σ7,H7,I7.unpinned,T.keep _ _ _ st5 fun b hb o e=>(I7.pin (b,o) (List.mem_append_right _ (List.mem_append_right _ (fj hb e)))).1,fun b hb=>?_,w7⟩
   obtain ⟨o,e,d⟩:=T.obj _ _ st5 b hb
   exact (I7.pin (b,o) (List.mem_append_right _ (List.mem_append_right _ (fj hb e)))).2.1
  cases f with
  | next=>obtain ⟨σ7,H7,I7,n7⟩:=q7; exact again I7 n7
  | cont=>obtain ⟨σ7,H7,I7,n7⟩:=q7; exact again I7 n7
  | brk=>obtain ⟨σ7,H7,I7,q7⟩:=q7; exact ⟨σ7,H7,I7.unpinned,q7⟩
  | ret v=>obtain ⟨x7,σ7,H7,I7,r7,q7⟩:=q7; exact ⟨x7,σ7,H7,I7.unpinned,r7,q7⟩
end
theorem ji {K:PySem.W.Frag} {a:Addr} {xs:List V} {g:TG} {tb:TS} {D:Ends} {σ:St} {H:Hp} (Pv:Nat→St→Hp→Prop) (h0:Pv 0 σ H) (hl:∀ i σ H,i≤xs.length→Pv i σ H→SqL K H a xs)
  (hs:∀ i x σ H,xs[i]?=some x→Pv i σ H→g x σ H fun σ2 H2=>tb { D with nx:=Pv (i+1),ct:=Pv (i+1),bk:=D.nx } σ2 H2) (hd:∀ σ H,Pv xs.length σ H→D.nx σ H) :
  ∃ W:Nat→Nat→St→Hp→Prop,(∃ m,W 0 m σ H)∧∀ i m σ H,W i m σ H →
   ((Itl K a).stop i H∧D.nx σ H)∨((Itl K a).go i H∧∃ N:St→Hp→Prop,(∀ σ' H',N σ' H'→∃ m',m' < m∧W (i+1) m' σ' H')∧∀ x H',(Itl K a).yld i H x H'→g x σ H' fun σ2 H2=>tb { D with nx:=N,ct:=N,bk:=D.nx } σ2 H2):=by
 refine ⟨fun i m σ H=>m=xs.length - i∧i≤xs.length∧Pv i σ H,⟨xs.length,by simp,Nat.zero_le _,h0⟩,?_⟩
 rintro i m σ H ⟨rfl,hi,p⟩
 have q:=hl i σ H hi p
 by_cases hlt:i < xs.length
 ·refine .inr ⟨⟨xs,xs[i],q,by simp [hlt]⟩,Pv (i+1),fun σ' H' p'=>⟨xs.length - (i+1),by omega,rfl,hlt,p'⟩,fun x H' y=>?_⟩
  obtain ⟨e,y⟩:=y
  subst e
  exact hs i x σ _ (y xs q) p
 ·have e:i=xs.length:=by omega
  subst e
  exact .inl ⟨⟨xs,q,Nat.le_refl _⟩,hd σ H p⟩
theorem jF {K:PySem.W.Frag} {a:Addr} {xs:List V} {g:TG} {tb:TS} {D:Ends} {σ:St} {H:Hp} (Pv:Nat→St→Hp→Prop) (h0:Pv 0 σ H) (hl:∀ i σ H,i≤xs.length→Pv i σ H→SqT K H a xs)
  (hs:∀ i x σ H,xs[i]?=some x→Pv i σ H→g x σ H fun σ2 H2=>tb { D with nx:=Pv (i+1),ct:=Pv (i+1),bk:=D.nx } σ2 H2) (hd:∀ σ H,Pv xs.length σ H→D.nx σ H) :
  ∃ W:Nat→Nat→St→Hp→Prop,(∃ m,W 0 m σ H)∧∀ i m σ H,W i m σ H →
   ((Itt K a).stop i H∧D.nx σ H)∨((Itt K a).go i H∧∃ N:St→Hp→Prop,(∀ σ' H',N σ' H'→∃ m',m' < m∧W (i+1) m' σ' H')∧∀ x H',(Itt K a).yld i H x H'→g x σ H' fun σ2 H2=>tb { D with nx:=N,ct:=N,bk:=D.nx } σ2 H2):=by
 refine ⟨fun i m σ H=>m=xs.length - i∧i≤xs.length∧Pv i σ H,⟨xs.length,by simp,Nat.zero_le _,h0⟩,?_⟩
 rintro i m σ H ⟨rfl,hi,p⟩
 have q:=hl i σ H hi p
 by_cases hlt:i < xs.length
 ·refine .inr ⟨⟨xs,xs[i],q,by simp [hlt]⟩,Pv (i+1),fun σ' H' p'=>⟨xs.length - (i+1),by omega,rfl,hlt,p'⟩,fun x H' y=>?_⟩
  obtain ⟨e,y⟩:=y
  subst e
  exact hs i x σ _ (y xs q) p
 ·have e:i=xs.length:=by omega
  subst e
  exact .inl ⟨⟨xs,q,Nat.le_refl _⟩,hd σ H p⟩
theorem gZ {lo:Int} {n:Nat} {g:TG} {tb:TS} {D:Ends} {σ:St} {H:Hp} (Pv:Nat→St→Hp→Prop) (h0:Pv 0 σ H)
  (hs:∀ i σ H,i < n→Pv i σ H→g (.int (lo+i)) σ H fun σ2 H2=>tb { D with nx:=Pv (i+1),ct:=Pv (i+1),bk:=D.nx } σ2 H2) (hd:∀ σ H,Pv n σ H→D.nx σ H) :
  ∃ W:Nat→Nat→St→Hp→Prop,(∃ m,W 0 m σ H)∧∀ i m σ H,W i m σ H →
   ((Itr lo n).stop i H∧D.nx σ H)∨((Itr lo n).go i H∧∃ N:St→Hp→Prop,(∀ σ' H',N σ' H'→∃ m',m' < m∧W (i+1) m' σ' H')∧∀ x H',(Itr lo n).yld i H x H'→g x σ H' fun σ2 H2=>tb { D with nx:=N,ct:=N,bk:=D.nx } σ2 H2):=by
 refine ⟨fun i m σ H=>m=n - i∧i≤n∧Pv i σ H,⟨n,by simp,Nat.zero_le _,h0⟩,?_⟩
 rintro i m σ H ⟨rfl,hi,p⟩
 by_cases hlt:i < n
 ·refine .inr ⟨hlt,Pv (i+1),fun σ' H' p'=>⟨n - (i+1),by omega,rfl,hlt,p'⟩,fun x H' y=>?_⟩
  obtain ⟨e,y⟩:=y
  subst e y
  exact hs i σ _ hlt p
 ·have e:i=n:=by omega
  subst e
  exact .inl ⟨Nat.le_refl _,hd σ H p⟩
end L2
namespace L2
open PySem PySem.Spec PyProof.Rows
abbrev R2:=V→V→Hp→VK→Prop
def OpR (X:Cx) (f:Value→Value→Sem Value) (r:R2):Prop :=
 ∀ (pins:List (Addr × Obj)) (s:Shared) (σ:St) (H:Hp) (x y:V) (v u:Value) (Q:VK),Inv X pins σ H s→RelV x v→RelV y u→r x y H Q →
  wpAny (model X.prog X.w) X.A (f v u) (EP X pins σ Q) X.xe s
def UnR (X:Cx) (f:Value→Sem Value) (r:V→Hp→VK→Prop):Prop :=
 ∀ (pins:List (Addr × Obj)) (s:Shared) (σ:St) (H:Hp) (x:V) (v:Value) (Q:VK),Inv X pins σ H s→RelV x v→r x H Q →
  wpAny (model X.prog X.w) X.A (f v) (EP X pins σ Q) X.xe s
def fK (X:Cx) (f:Value) (r:List V→Hp→VK→Prop):Prop :=
 ∀ (pins:List (Addr × Obj)) (s:Shared) (σ:St) (H:Hp) (xs:List V) (us:List Value) (Q:VK),Inv X pins σ H s→Vals xs us→r xs H Q →
  wpAny (model X.prog X.w) X.A (call f us) (EP X pins σ Q) X.xe s
def tOp (r:R2) (ta tb:TE):TE:=fun σ H Q=>ta σ H fun x H1=>tb σ H1 fun y H2=>r x y H2 Q
def tUn (r:V→Hp→VK→Prop) (ta:TE):TE:=fun σ H Q=>ta σ H fun x H1=>r x H1 Q
def rI (C:Int→Int→Prop) (g:Int→Int→V):R2:=fun x y H Q=>∃ i j,x=.int i∧y=.int j∧C i j∧Q (g i j) H
def rI0 (g:Int→Int→V):R2:=fun x y H Q=>∃ i j,x=.int i∧y=.int j∧Q (g i j) H
def rU (g:Int→V):V→Hp→VK→Prop:=fun x H Q=>∃ i,x=.int i∧Q (g i) H
section
variable {X:Cx} {a b c:Expr} {ta tb tc:TE} {pos:Pos}
theorem Lj (ha:PE X a ta) (hb:PE X b tb) {pins:List (Addr × Obj)} {s:Shared} {σ:St} {H:Hp} {R:V→V→Hp→Prop} (I:Inv X pins σ H s)
  (h:ta σ H fun x H1=>tb σ H1 fun y H2=>R x y H2) {Q:Value→Shared→Prop} {f:Value→Value→Sem Value}
  (hf:∀ v u s2 x y H2,Inv X pins σ H2 s2→RelV x v→RelV y u→R x y H2→wpAny (model X.prog X.w) X.A (f v u) Q X.xe s2) :
  wpAny (model X.prog X.w) X.A (eval a X.env) (fun v s₁=>wpAny (model X.prog X.w) X.A (eval b X.env) (fun u s₂=>wpAny (model X.prog X.w) X.A (f v u) Q X.xe s₂) X.xe s₁) X.xe s:=by
 refine thn (ha pins s σ H _ I h) fun v s1 ⟨x,H1,I1,r1,q1⟩=>?_
 refine thn (hb pins s1 σ H1 _ I1 q1) fun u s2 ⟨y,H2,I2,r2,q2⟩=>?_
 exact hf v u s2 x y H2 I2 r1 r2 q2
theorem aX {op:Operator} {r:R2} (ho:OpR X (binaryOp op) r) (ha:PE X a ta) (hb:PE X b tb):PE X (.BinOp a op b pos) (tOp r ta tb):=by
 intro pins s σ H Q I h
 exact wpAny_BinOp (Lj ha hb I h fun v u s2 x y H2 I2 rx ry q=>ho pins s2 σ H2 x y v u Q I2 rx ry q)
theorem oN {op:UnaryOp} {r:V→Hp→VK→Prop} (ho:UnR X (unaryOp op) r) (ha:PE X a ta):PE X (.UnaryOp op a pos) (tUn r ta):=by
 intro pins s σ H Q I h
 exact UnaryOp_ (thn (ha pins s σ H _ I h) fun v s1 ⟨x,H1,I1,r1,q1⟩=>ho pins s1 σ H1 x v Q I1 r1 q1)
theorem opI {f:Value→Value→Sem Value} {C:Int→Int→Prop} {g:Int→Int→Int}
  (rule:∀ (i j:Int) (t u:Tok) (s:Shared) (Q:Value→Shared→Prop) (E:Value→Shared→Prop),C i j→Q (.int (g i j) s.toks) { s with toks:=s.toks+1 }→wpAny (model X.prog X.w) X.A (f (.int i t) (.int j u)) Q E s) :
  OpR X f (rI C fun i j=>.int (g i j)):=by
 intro pins s σ H x y v u Q I rx ry h
 obtain ⟨i,j,rfl,rfl,hc,q⟩:=h
 obtain ⟨t,rfl⟩:=rx
 obtain ⟨t',rfl⟩:=ry
 exact rule i j t t' s _ _ hc ⟨.int (g i j),H,I.tok _,⟨_,rfl⟩,q⟩
theorem K1 {f:Value→Value→Sem Value} {g:Int→Int→Int}
  (rule:∀ (i j:Int) (t u:Tok) (s:Shared) (Q:Value→Shared→Prop) (E:Value→Shared→Prop),Q (.int (g i j) s.toks) { s with toks:=s.toks+1 }→wpAny (model X.prog X.w) X.A (f (.int i t) (.int j u)) Q E s) :
  OpR X f (rI0 fun i j=>.int (g i j)):=by
 intro pins s σ H x y v u Q I rx ry h
 obtain ⟨i,j,rfl,rfl,q⟩:=h
 obtain ⟨t,rfl⟩:=rx
 obtain ⟨t',rfl⟩:=ry
 exact rule i j t t' s _ _ ⟨.int (g i j),H,I.tok _,⟨_,rfl⟩,q⟩
theorem J1 {f:Value→Value→Sem Value} {g:Int→Int→Bool}
  (rule:∀ (i j:Int) (t u:Tok) (s:Shared) (Q:Value→Shared→Prop) (E:Value→Shared→Prop),Q (.bool (g i j)) s→wpAny (model X.prog X.w) X.A (f (.int i t) (.int j u)) Q E s) :
  OpR X f (rI0 fun i j=>.bl (g i j)):=by
 intro pins s σ H x y v u Q I rx ry h
 obtain ⟨i,j,rfl,rfl,q⟩:=h
 obtain ⟨t,rfl⟩:=rx
 obtain ⟨t',rfl⟩:=ry
 exact rule i j t t' s _ _ ⟨.bl (g i j),H,I,rfl,q⟩
def Nv (i j:Int):Prop:=0≤j∧j≤1000000∧i.natAbs < 2 ^ 64
def Kp (i j:Int):Prop:=(-(2 ^ 64) < i∧i < 2 ^ 64)∨(-(2 ^ 64) < j∧j < 2 ^ 64)
theorem Kp.ok {i j:Int} (h:Kp i j):IntMulOk i j:=by
 rcases h with ⟨h1,h2⟩ | ⟨h1,h2⟩
 ·exact .of_left (intBits_le_64 h1 h2)
 ·exact .of_right (intBits_le_64 h1 h2)
theorem bI:OpR X (binaryOp .Add) (rI0 fun i j=>.int (i+j)):=K1 fun _ _ _ _ _ _ _ q=>add_int q
theorem gF:OpR X (binaryOp .Sub) (rI0 fun i j=>.int (i - j)):=K1 fun _ _ _ _ _ _ _ q=>sub_int q
theorem jj:OpR X (binaryOp .Mult) (rI Kp fun i j=>.int (i * j)):=opI fun _ _ _ _ _ _ _ hc q=>mul_int q hc.ok
theorem oX:OpR X (binaryOp .Mod) (rI (fun _ j=>0 < j) fun i j=>.int (i % j)):=opI fun i j _ _ _ _ _ hc q=>by
 have h1:(0:Int) < j:=hc
 exact mod_int' (by omega) (by rw [Int.fmod_eq_emod_of_nonneg i (by omega)]; exact q)
theorem CZ:OpR X (binaryOp .Pow) (rI Nv fun i j=>.int (i ^ j.toNat)):=opI fun _ _ _ _ _ _ _ hc q=>pow_int_small hc.1 hc.2.1 hc.2.2 q
theorem zE:OpR X (inplaceOp .Add) (rI0 fun i j=>.int (i+j)):=K1 fun _ _ _ _ _ _ _ q=>iadd_int q
theorem unI {f:Value→Sem Value} {g:Int→Int}
  (rule:∀ (i:Int) (t:Tok) (s:Shared) (Q:Value→Shared→Prop) (E:Value→Shared→Prop),Q (.int (g i) s.toks) { s with toks:=s.toks+1 }→wpAny (model X.prog X.w) X.A (f (.int i t)) Q E s) :
  UnR X f (rU fun i=>.int (g i)):=by
 intro pins s σ H x v Q I rx h
 obtain ⟨i,rfl,q⟩:=h
 obtain ⟨t,rfl⟩:=rx
 exact rule i t s _ _ ⟨.int (g i),H,I.tok _,⟨_,rfl⟩,q⟩
theorem jR:UnR X (unaryOp .USub) (rU fun i=>.int (-i)):=unI fun _ _ _ _ _ q=>neg_int q
end
def Mi:V→V→Bool
 | .non,.non=>true | .non,.int _=>true | .int _,.non=>true | .non,.bl _=>true | .bl _,.non=>true | .non,.str _=>true | .str _,.non=>true
 | .int _,.int _=>true | .bl _,.bl _=>true | .str _,.str _=>true | .byt _,.byt _=>true
 | .int _,.str _=>true | .str _,.int _=>true | .bl _,.str _=>true | .str _,.bl _=>true
 | _,_=>false
def rEq:R2:=fun x y H Q=>Mi x y=true∧Q (.bl (decide (x=y))) H
def rNe:R2:=fun x y H Q=>Mi x y=true∧Q (.bl (!decide (x=y))) H
theorem yq {i j:Int}:decide (V.int i=V.int j)=(i == j):=by
 rw [Bool.eq_iff_iff]
 simp
theorem Du {i j:Bool}:decide (V.bl i=V.bl j)=(i == j):=by
 rw [Bool.eq_iff_iff]
 simp
theorem zA {i j:Str}:decide (V.str i=V.str j)=(i == j):=by
 rw [Bool.eq_iff_iff]
 simp
theorem wX {i j:Array UInt8}:decide (V.byt i=V.byt j)=(i.toList == j.toList):=by
 rw [Bool.eq_iff_iff]
 cases i
 cases j
 simp
section
variable {X:Cx} {a b c:Expr} {ta tb tc:TE} {pos:Pos}
theorem bN {pins:List (Addr × Obj)} {σ:St} {H:Hp} {s:Shared} {Q:VK} {k k':Bool} (I:Inv X pins σ H s) (q:Q (.bl k) H) (e:k=k'):EP X pins σ Q (.bool k') s:=by
 subst e
 exact ⟨.bl k,H,I,rfl,q⟩
theorem gG:OpR X (compareOp .Eq) rEq:=by
 intro pins s σ H x y v u Q I rx ry h
 obtain ⟨hs,q⟩:=h
 cases x with
 | non =>
  cases rx
  cases y with
  | non=>cases ry; exact PySem.EqNone.eq_none_none (bN I q (by simp))
  | bl j=>cases ry; exact PySem.EqNone.eq_none_bool (bN I q (by simp))
  | int j=>obtain ⟨t',rfl⟩:=ry; exact PySem.EqNone.eq_none_int (bN I q (by simp))
  | str j=>obtain ⟨t',rfl⟩:=ry; exact PySem.EqNone.eq_none_str (bN I q (by simp))
  | _=>exact absurd (show false=true from hs) Bool.false_ne_true
 | bl i =>
  cases rx
  cases y with
  | non=>cases ry; exact PySem.EqNone.eq_bool_none (bN I q (by simp))
  | bl j=>cases ry; exact eq_bool (bN I q Du)
  | str j=>obtain ⟨t',rfl⟩:=ry; exact PySem.EqMixed.eq_bool_str (bN I q (by simp))
  | _=>exact absurd (show false=true from hs) Bool.false_ne_true
 | int i =>
  obtain ⟨t,rfl⟩:=rx
  cases y with
  | non=>cases ry; exact PySem.EqNone.eq_int_none (bN I q (by simp))
  | int j=>obtain ⟨t',rfl⟩:=ry; exact eq_int (bN I q yq)
  | str j=>obtain ⟨t',rfl⟩:=ry; exact PySem.EqMixed.eq_int_str (bN I q (by simp))
  | _=>exact absurd (show false=true from hs) Bool.false_ne_true
 | str i =>
  obtain ⟨t,rfl⟩:=rx
  cases y with
  | non=>cases ry; exact PySem.EqNone.eq_str_none (bN I q (by simp))
  | bl j=>cases ry; exact PySem.EqMixed.eq_str_bool (bN I q (by simp))
  | int j=>obtain ⟨t',rfl⟩:=ry; exact PySem.EqMixed.eq_str_int (bN I q (by simp))
  | str j=>obtain ⟨t',rfl⟩:=ry; exact eq_str (bN I q zA)
  | _=>exact absurd (show false=true from hs) Bool.false_ne_true
 | byt i =>
  obtain ⟨t,rfl⟩:=rx
  cases y with
  | byt j=>obtain ⟨t',rfl⟩:=ry; exact PySem.W.eq_bytes (bN I q wX)
  | _=>exact absurd (show false=true from hs) Bool.false_ne_true
 | _=>cases y <;> exact absurd (show false=true from hs) Bool.false_ne_true
theorem Hw:OpR X (compareOp .NotEq) rNe:=by
 intro pins s σ H x y v u Q I rx ry h
 obtain ⟨hs,q⟩:=h
 cases x with
 | non =>
  cases rx
  cases y with
  | non=>cases ry; exact PySem.EqNone.ne_none_none (bN I q (by simp))
  | bl j=>cases ry; exact PySem.EqNone.ne_none_bool (bN I q (by simp))
  | int j=>obtain ⟨t',rfl⟩:=ry; exact PySem.EqNone.ne_none_int (bN I q (by simp))
  | str j=>obtain ⟨t',rfl⟩:=ry; exact PySem.EqNone.ne_none_str (bN I q (by simp))
  | _=>exact absurd (show false=true from hs) Bool.false_ne_true
 | bl i =>
  cases rx
  cases y with
  | non=>cases ry; exact PySem.EqNone.ne_bool_none (bN I q (by simp))
  | bl j=>cases ry; exact ne_bool (bN I q (congrArg not Du))
  | str j=>obtain ⟨t',rfl⟩:=ry; exact PySem.EqMixed.ne_bool_str (bN I q (by simp))
  | _=>exact absurd (show false=true from hs) Bool.false_ne_true
 | int i =>
  obtain ⟨t,rfl⟩:=rx
  cases y with
  | non=>cases ry; exact PySem.EqNone.ne_int_none (bN I q (by simp))
  | int j=>obtain ⟨t',rfl⟩:=ry; exact ne_int (bN I q (congrArg not yq))
  | str j=>obtain ⟨t',rfl⟩:=ry; exact PySem.EqMixed.ne_int_str (bN I q (by simp))
  | _=>exact absurd (show false=true from hs) Bool.false_ne_true
 | str i =>
  obtain ⟨t,rfl⟩:=rx
  cases y with
  | non=>cases ry; exact PySem.EqNone.ne_str_none (bN I q (by simp))
  | bl j=>cases ry; exact PySem.EqMixed.ne_str_bool (bN I q (by simp))
  | int j=>obtain ⟨t',rfl⟩:=ry; exact PySem.EqMixed.ne_str_int (bN I q (by simp))
  | str j=>obtain ⟨t',rfl⟩:=ry; exact ne_str (bN I q (congrArg not zA))
  | _=>exact absurd (show false=true from hs) Bool.false_ne_true
 | byt i =>
  obtain ⟨t,rfl⟩:=rx
  cases y with
  | byt j=>obtain ⟨t',rfl⟩:=ry; exact PySem.W.ne_bytes (bN I q (congrArg not wX))
  | _=>exact absurd (show false=true from hs) Bool.false_ne_true
 | _=>cases y <;> exact absurd (show false=true from hs) Bool.false_ne_true
theorem Ks:OpR X (compareOp .Lt) (rI0 fun i j=>.bl (decide (i < j))):=J1 fun _ _ _ _ _ _ _ q=>lt_int q
theorem qK:OpR X (compareOp .LtE) (rI0 fun i j=>.bl (decide (i≤j))):=J1 fun _ _ _ _ _ _ _ q=>le_int q
theorem BK:OpR X (compareOp .Gt) (rI0 fun i j=>.bl (decide (j < i))):=J1 fun _ _ _ _ _ _ _ q=>gt_int q
theorem K8:OpR X (compareOp .GtE) (rI0 fun i j=>.bl (decide (j≤i))):=J1 fun _ _ _ _ _ _ _ q=>ge_int q
theorem yt:OpR X (compareOp .In) (fun x y H Q=>∃ i j,x=.str i∧y=.str j∧Q (.bl (!(Builtin.Str.occurrences j i 0 j.length 1).isEmpty)) H):=by
 intro pins s σ H x y v u Q I rx ry h
 obtain ⟨i,j,rfl,rfl,q⟩:=h
 obtain ⟨t,rfl⟩:=rx
 obtain ⟨t',rfl⟩:=ry
 exact in_str (bN I q rfl)
theorem bG (b:Expr) {op:CmpOp} (h:op≠.In:=by decide) (h2:op≠.NotIn:=by decide):behindInMarks op b=false:=by
 have e1:(op == CmpOp.In)=false:=by cases op <;> first | rfl | exact absurd rfl h
 have e2:(op == CmpOp.NotIn)=false:=by cases op <;> first | rfl | exact absurd rfl h2
 cases b <;> simp [behindInMarks,e1,e2]
theorem gK {op:CmpOp} {r:R2} (ho:OpR X (compareOp op) r) (ha:PE X a ta) (hb:PE X b tb) (hm:behindInMarks op b=false):PE X (.Compare a [op] [b] pos) (tOp r ta tb):=by
 intro pins s σ H Q I h
 exact wpAny_Compare1 (Lj ha hb I h fun v u s2 x y H2 I2 rx ry q=>ho pins s2 σ H2 x y v u Q I2 rx ry q) hm
def Lq (t:TE):TT:=fun σ H Q=>t σ H fun x H'=>∃ k,x=.bl k∧Q k H'
theorem aY {op:CmpOp} {r:R2} (ho:OpR X (compareOp op) r) (ha:PE X a ta) (hb:PE X b tb) (hm:behindInMarks op b=false):PT X (.Compare a [op] [b] pos) (Lq (tOp r ta tb)):=by
 intro pins s σ H Q I h
 refine wpAny_isTrue_Compare1 (thn (ha pins s σ H _ I h) fun v s1 ⟨x,H1,I1,r1,q1⟩=>thn (hb pins s1 σ H1 _ I1 q1) fun u s2 ⟨y,H2,I2,r2,q2⟩ =>
  thn (ho pins s2 σ H2 x y v u _ I2 r1 r2 q2) fun c s3 ⟨z,H3,I3,r3,k,e,q3⟩=>?_) hm
 subst e
 cases r3
 exact wpAny_truthy_bool ⟨H3,I3,q3⟩
def pB (r r':R2) (ta tb tc:TE):TE:=fun σ H Q=>ta σ H fun x H1=>tb σ H1 fun y H2=>r x y H2 fun z H3=>∃ k,z=.bl k ∧
 (if k=true then tc σ H3 fun w' H4=>r' y w' H4 Q else Q (.bl false) H3)
theorem nJ {op op':CmpOp} {r r':R2} (ho:OpR X (compareOp op) r) (ho':OpR X (compareOp op') r') (ha:PE X a ta) (hb:PE X b tb) (hc:PE X c tc)
  (hm:lastMarks [op,op'] [b,c]=false:=by with_unfolding_all rfl):PE X (.Compare a [op,op'] [b,c] pos) (pB r r' ta tb tc):=by
 intro pins s σ H Q I h
 refine Compare_chain (thn (ha pins s σ H _ I h) fun v s1 ⟨x,H1,I1,r1,q1⟩=>chain_link (thn (hb pins s1 σ H1 _ I1 q1) fun u s2 ⟨y,H2,I2,r2,q2⟩ =>
  thn (ho pins s2 σ H2 x y v u _ I2 r1 r2 q2) fun d s3 ⟨z,H3,I3,r3,k,e,q3⟩=>?_)) hm
 subst e
 cases r3
 refine wpAny_truthy_bool ?_
 cases k with
 | false=>exact ite_ff ⟨.bl false,H3,I3,rfl,q3⟩
 | true=>exact ite_tt (chain_last (thn (hc pins s3 σ H3 _ I3 q3) fun w' s4 ⟨z',H4,I4,r4,q4⟩=>ho' pins s4 σ H4 y z' u w' Q I4 r2 r4 q4))
theorem mF:(sizeLine:Nat) < 2 ^ 63:=by rw [sizeLine_eq]; decide
theorem eZ:OpR X (binaryOp .Add) (fun x y H Q=>∃ i j,x=.str i∧y=.str j∧i.length+j.length≤sizeLine∧Q (.str (i++j)) H):=by
 intro pins s σ H x y v u Q I rx ry h
 obtain ⟨i,j,rfl,rfl,hz,q⟩:=h
 obtain ⟨t,rfl⟩:=rx
 obtain ⟨t',rfl⟩:=ry
 exact add_str (fun t' tk=>⟨.str (i++j),H,I.tok _,⟨_,rfl⟩,q⟩) hz
theorem vals1 {x:V} {us:List Value} (r:Vals [x] us):∃ u,us=[u]∧RelV x u:=by
 cases r with
 | cons r1 r2=>cases r2; exact ⟨_,rfl,r1⟩
theorem vals2 {x y:V} {us:List Value} (r:Vals [x,y] us):∃ u w',us=[u,w']∧RelV x u∧RelV y w':=by
 cases r with
 | cons r1 r2 =>
  cases r2 with
  | cons r3 r4=>cases r4; exact ⟨_,_,rfl,r1,r3⟩
theorem kO:fK X (.builtin "abs") (fun xs H Q=>∃ i,xs=[.int i]∧Q (.int (if i < 0 then -i else i)) H):=by
 intro pins s σ H xs us Q I r h
 obtain ⟨i,rfl,q⟩:=h
 obtain ⟨u,rfl,t,rfl⟩:=vals1 r
 exact call_abs_int fun u tk=>⟨.int (if i < 0 then -i else i),H,I.tok _,⟨_,rfl⟩,q⟩
theorem qg (hc:X.calm=true):fK X (.builtin "max") (fun xs H Q=>∃ i j,xs=[.int i,.int j]∧Q (.int (if j > i then j else i)) H):=by
 intro pins s σ H xs us Q I r h
 obtain ⟨i,j,rfl,q⟩:=h
 obtain ⟨u,w',rfl,⟨t,rfl⟩,⟨t',rfl⟩⟩:=vals2 r
 refine max_two_ints (I.ok.hd hc) fun h' tk k=>⟨_,H,I.kept k,?_,q⟩
 by_cases hj:j > i
 ·rw [if_pos hj,if_pos hj]; exact ⟨_,rfl⟩
 ·rw [if_neg hj,if_neg hj]; exact ⟨_,rfl⟩
theorem yD (hc:X.calm=true):fK X (.builtin "min") (fun xs H Q=>∃ i j,xs=[.int i,.int j]∧Q (.int (if j < i then j else i)) H):=by
 intro pins s σ H xs us Q I r h
 obtain ⟨i,j,rfl,q⟩:=h
 obtain ⟨u,w',rfl,⟨t,rfl⟩,⟨t',rfl⟩⟩:=vals2 r
 refine min_two_ints (I.ok.hd hc) fun h' tk k=>⟨_,H,I.kept k,?_,q⟩
 by_cases hj:j < i
 ·rw [if_pos hj,if_pos hj]; exact ⟨_,rfl⟩
 ·rw [if_neg hj,if_neg hj]; exact ⟨_,rfl⟩
end
end L2
namespace L2
open PySem PySem.Spec PyProof.Rows
structure KY (h:Heap) (x dx C:Addr) (mA:Str→Option Value):Prop where
 obj:h.get? x=some (PySem.W.instObj C dx)
 ns:h.Ns1 dx mA
 ne:dx≠x
theorem xX {h:Heap} {dx:Addr} {mA:Str→Option Value} (n:h.Ns1 dx mA):∃ od,h.get? dx=some od∧∀ name,PySem.W.lookIn name od=some (mA name):=by
 obtain ⟨o,es,ep,ho,hd,hk,_,hm⟩:=n
 refine ⟨o,ho,fun name=>?_⟩
 have e:=hm name
 unfold nsFind findBy at e
 rw [← Array.find?_toList] at e
 unfold PySem.W.lookIn
 rw [hd]
 dsimp only
 split
 ·rename_i y q
  rw [q] at e
  exact congrArg some e
 ·rename_i q
  rw [q] at e
  have a:es.toList.any (·.refKey)=false:=by
   rw [List.any_eq_false]
   intro y hy
   obtain ⟨z,t,hkey⟩:=hk y (Array.mem_toList_iff.mp hy)
   simp [DictEntry.refKey,hkey]
  have a':¬ es.toList.any (·.refKey)=true:=by rw [a]; exact Bool.false_ne_true
  rw [if_neg a']
  exact congrArg some e
theorem KY.look {h:Heap} {x dx C:Addr} {mA:Str→Option Value} (I:KY h x dx C mA):∃ od,PySem.W.InstAt h x (PySem.W.instObj C dx) C (some od)∧∀ name,PySem.W.lookIn name od=some (mA name) :=
 let ⟨od,ho,hl⟩:=xX I.ns
 ⟨od,⟨I.obj,rfl,rfl,ho⟩,hl⟩
section
variable {prog:Program} {w:World} {A:Around} {E:Value→Shared→Prop} {s:Shared} {K:PySem.W.Frag} {x dx C f:Addr} {mA:Str→Option Value} {name:Str} {v:Value}
end
theorem vh.some_of {v:V} {o:Option Value} (r:vh (some v) o):∃ u,o=some u∧RelV v u:=by
 cases o with
 | none=>exact (show False from r).elim
 | some u=>exact ⟨u,rfl,r⟩
section
variable {P:Program} {w:World} {H H':Hp} {h h':Heap} {a C dx:Addr} {fs fs':List (Str × V)}
theorem En (hok:HOk P w H h) (e:H a=some (.ins C dx fs)):∃ mA,KY h a dx C mA∧(∀ f,vh (fs.lookup f) (mA f))∧PySem.Within mA (fs.map (·.1))∧fs.length≤1000∧H dx=some (.own a):=by
 obtain ⟨d,z,ne,ob,mA,n,r,q⟩:=(show cL P w H h a (.ins C dx fs) from hok a _ e)
 exact ⟨mA,⟨ob,n,ne⟩,r,q,z,d⟩
end
structure Cls (K:PySem.W.Frag) (C:Addr):Prop where
 pg:PySem.W.plainGet K C Str.empty=true
 hd:PySem.W.hasDictIn K C=true
 po:PySem.W.plainOver K C=true
 sa:PySem.W.findIn K (.ref C) "__setattr__" = some (some (.builtin "object.__setattr__"))
theorem Cls.get {K:PySem.W.Frag} {C:Addr} (c:Cls K C) (f:Str):PySem.W.plainGet K C f=true:=c.pg
structure Con (K:PySem.W.Frag) (C:Addr) (f:Str) (v:V) (u:Value):Prop where
 at_:PySem.W.findIn K (.ref C) f=some (some u)
 rel:RelV v u
 get:PySem.W.specialIn K u "__get__" = some none
 cp:PySem.W.copiedNames.contains f=false
structure Meth (K:PySem.W.Frag) (C:Addr) (m:Str) (f:Addr):Prop where
 at_:PySem.W.findIn K (.ref C) m=some (some (.ref f))
 fn:PySem.W.isFn K (.ref f)=true
 kp:PySem.W.keepIn K (.ref f)=true
section
variable {X:Cx} {pins:List (Addr × Obj)} {σ:St} {H:Hp} {s:Shared} {a C dx:Addr} {fs:List (Str × V)} {f:Str} {v:V} {A:Around} {E:Value→Shared→Prop}
end
section
variable {X:Cx} {o e value:Expr} {f:Str} {pos pos' tpos:Pos} {ta tv:TE}
end
section
variable {X:Cx} {pins:List (Addr × Obj)} {σ:St} {H:Hp} {s:Shared} {A:Around} {E:Value→Shared→Prop} {Q:Value→Shared→Prop} {c:Value} {b:Bool}
inductive uY (K:PySem.W.Frag) (H:Hp):V→Value→Prop where
 | non:uY K H .non (.type "NoneType")
 | bl (x:Bool):uY K H (.bl x) (.type "bool")
 | int (i:Int):uY K H (.int i) (.type "int")
 | str (x:Str):uY K H (.str x) (.type "str")
 | flt (x:UInt64):uY K H (.flt x) (.type "float")
 | lst {a:Addr} {xs:List V} (e:H a=some (.lst xs)):uY K H (.ref a) (.type "list")
 | frz {a:Addr} {o:Obj} {xs:List V} (e:H a=some (.frz o (.lst xs))):uY K H (.ref a) (.type "list")
 | tup {a:Addr} {xs:List V} (e:H a=some (.tup xs)):uY K H (.ref a) (.type "tuple")
 | dK {a:Addr} {kvs:List (Key × V)} (e:H a=some (.dK kvs)):uY K H (.ref a) (.type "dict")
 | dT {a:Addr} {kvs:List (List Key × V)} (e:H a=some (.dT kvs)):uY K H (.ref a) (.type "dict")
 | ins {a C dx:Addr} {fs:List (Str × V)} (e:H a=some (.ins C dx fs)) (cl:Cls K C) (ha:PySem.W.findIn K (.ref C) "__class__" = some (some (.builtin "object.__class__")))
   (hn:PySem.W.specialIn K (.builtin "object.__class__") "__get__" = some (some (.builtin "getset_descriptor.__get__"))) (htk:PySem.W.takesIn K (.builtin "object.__class__")=some true)
   (hm:PySem.W.mroIn K C (.type "object")=some true):uY K H (.ref a) (.ref C)
theorem xZ {x:V} {u t:Value} (I:Inv X pins σ H s) (rx:RelV x u) (ty:uY X.K H x t) (e:PySem.W.kitOne X.K t c=some b) (h:∀ tk,Q (.bool b) { s with toks:=tk }) :
  wpAny (model X.prog X.w) A (call (.builtin "isinstance") [u,c]) Q E s:=by
 cases ty with
 | non=>cases (show u=Value.none from rx); exact PySem.W.kia_one PySem.W.kitx_none I.kIn True.intro e (fun z=>nomatch z) h
 | bl y=>cases (show u=Value.bool y from rx); exact PySem.W.kia_one PySem.W.kitx_bool I.kIn True.intro e (fun z=>nomatch z) h
 | int i=>obtain ⟨t,q⟩:=(show ∃ t,u=Value.int i t from rx); cases q; exact PySem.W.kia_one PySem.W.kitx_int I.kIn True.intro e (fun z=>nomatch z) h
 | str y=>obtain ⟨t,q⟩:=(show ∃ t,u=Value.str y t from rx); cases q; exact PySem.W.kia_one PySem.W.kitx_str I.kIn True.intro e (fun z=>nomatch z) h
 | flt y=>obtain ⟨t,q⟩:=(show ∃ t,u=Value.float y t from rx); cases q; exact PySem.W.kia_one PySem.W.kitx_float I.kIn True.intro e (fun z=>nomatch z) h
 | @lst a xs ea =>
  cases (show u=Value.ref a from rx)
  obtain ⟨_,_,n,_,h1⟩:=(show cL X.prog X.w H s.heap a (.lst xs) from I.hok a _ ea)
  exact PySem.W.kia_one PySem.W.kitx_list I.kIn ⟨_,h1,rfl⟩ e (fun z=>nomatch z) h
 | @frz a ob xs ea =>
  cases (show u=Value.ref a from rx)
  obtain ⟨_,_,_,n,_,h1⟩:=(show cL X.prog X.w H s.heap a (.frz ob (.lst xs)) from I.hok a _ ea)
  exact PySem.W.kia_one PySem.W.kitx_list I.kIn ⟨_,h1,rfl⟩ e (fun z=>nomatch z) h
 | @tup a xs ea =>
  cases (show u=Value.ref a from rx)
  obtain ⟨_,_,_,p⟩:=(show cL X.prog X.w H s.heap a (.tup xs) from I.hok a _ ea)
  obtain ⟨o,h1,h2,_⟩:=p
  exact PySem.W.kia_one PySem.W.kitx_tuple I.kIn ⟨o,h1,h2⟩ e (fun z=>nomatch z) h
 | @dK a kvs ea =>
  cases (show u=Value.ref a from rx)
  obtain ⟨_,_,vs,_,p⟩:=(show cL X.prog X.w H s.heap a (.dK kvs) from I.hok a _ ea)
  obtain ⟨o,es,ep,h1,h2,_⟩:=p
  exact PySem.W.kia_one PySem.W.kitx_dict I.kIn ⟨o,h1,h2.1⟩ e (fun z=>nomatch z) h
 | @dT a kvs ea =>
  cases (show u=Value.ref a from rx)
  obtain ⟨_,_,xs,_,o,es,ep,h1,h2,_⟩:=(show cL X.prog X.w H s.heap a (.dT kvs) from I.hok a _ ea)
  exact PySem.W.kia_one PySem.W.kitx_dict I.kIn ⟨o,h1,h2.1⟩ e (fun z=>nomatch z) h
 | @ins a C dx fs ea cl ha hn htk hm =>
  cases (show u=Value.ref a from rx)
  obtain ⟨mA,O,_⟩:=En I.hok ea
  obtain ⟨od,J,_⟩:=O.look
  exact PySem.W.kia_one (PySem.W.kitx_own (cl.get _) cl.hd ha hn htk hm) I.kIn J e (fun z=>nomatch z) h
end
end L2
namespace L2
open PySem PySem.Spec PyProof.Rows
structure j7 (k:Nat) (A:Around):Prop where
 hd:A.handled=none
 dp:A.depth+3 * k+5 < recursionLimit
 un:A.units+16 * k+200 < cLine
theorem j7.mono {j k:Nat} {A:Around} (r:j7 k A) (h:j≤k):j7 j A:=⟨r.hd,by have:=r.dp; omega,by have:=r.un; omega⟩
theorem j7.deeper {k:Nat} {A:Around} (r:j7 (k+1) A) (env:Env):j7 k (A.deeper env) :=
 ⟨r.hd,by have:=r.dp; show A.depth+1+3 * k+5 < _; omega,by have:=r.un; show A.units+3+16 * k+200 < _; omega⟩
theorem j7.depth {k:Nat} {A:Around} (r:j7 k A):A.depth < recursionLimit:=by have:=r.dp; omega
theorem j7.units {k:Nat} {A:Around} (r:j7 k A):A.units+64 < cLine:=by have:=r.un; omega
theorem j7.units0 {k:Nat} {A:Around} (r:j7 k A):A.units < cLine:=by have:=r.un; omega
def LC:TA:=fun _ H Q=>Q [] H
def FZ (ta:TE) (tr:TA):TA:=fun σ H Q=>ta σ H fun x H1=>tr σ H1 fun xs H2=>Q (x :: xs) H2
section
variable {X:Cx} {e:Expr} {es:List Expr} {te:TE} {t:TA} {pos:Pos}
theorem ao:PA X [] LC:=fun _ _ _ _ H Q I h=>Calls.spliced_nil ⟨[],H,I,.nil,h⟩
theorem aj (ha:PE X e te) (hr:PA X es t) (hs:starEach (e :: es) X.env=(false,eval e X.env) :: starEach es X.env:=by rfl):PA X (e :: es) (FZ te t):=by
 intro pos pins s σ H Q I h
 rw [hs]
 show wpAny _ _ (spliced ((false,eval e X.env) :: backTo pos (starEach es X.env))) _ _ s
 refine Calls.spliced_cons (thn (ha pins s σ H _ I h) fun u s1 ⟨x,H1,I1,r1,q1⟩=>?_)
 exact thn (hr pos pins s1 σ H1 _ I1 q1) fun us s2 ⟨xs,H2,I2,r2,q2⟩=>⟨x :: xs,H2,I2,.cons r1 r2,q2⟩
def Np (t:TA):TE:=fun σ H Q=>t σ H fun xs H1=>xs.length≤sizeLine∧∀ p,H1 p=none→Q (.ref p) (upd H1 p (.tup xs))
def Ms (t:TA):TE:=fun σ H Q=>t σ H fun xs H1=>xs.length≤sizeLine∧∀ p,H1 p=none→Q (.ref p) (upd H1 p (.lst xs))
theorem bD {x1} (h:PA X es t):PE X (.Tuple es x1 pos) (Np t):=by
 intro pins s σ H Q I hq
 refine wpAny_Tuple_spliced (thn (h pos pins s σ H _ I hq) fun us s1 ⟨xs,H1,I1,r,z,q⟩=>⟨by rw [← r.length]; exact z,?_⟩)
 have hf:H1 s1.heap.objs.size=none:=I1.hok.fresh (Nat.le_refl _)
 refine ⟨.ref s1.heap.objs.size,upd H1 s1.heap.objs.size (.tup xs),I1.laid (t':=s1.toks) (fun b u e=>Heap.get?_push_of_some _ e) (Nat.le_refl _) ?_,rfl,q _ hf⟩
 exact ⟨z,us,r,⟨_,Heap.get?_push_size _ rfl,rfl,_,rfl⟩⟩
theorem cU (h:PA X es t):PE X (.List es pos) (Ms t):=by
 intro pins s σ H Q I hq
 refine wpAny_List_spliced (thn (h pos pins s σ H _ I hq) fun us s1 ⟨xs,H1,I1,r,z,q⟩=>⟨by rw [← r.length]; exact z,?_⟩)
 have hf:H1 s1.heap.objs.size=none:=I1.hok.fresh (Nat.le_refl _)
 refine ⟨.ref s1.heap.objs.size,upd H1 s1.heap.objs.size (.lst xs),I1.laid (t':=s1.toks) (fun b u e=>Heap.get?_push_of_some _ e) (Nat.le_refl _) ?_,rfl,q _ hf⟩
 exact ⟨z,us,0,r,Heap.get?_push_size _ rfl⟩
end
abbrev Sp:=List V→Hp→VK→XK→Prop
abbrev CXT:=List Env→Hp→Shared→XK→Value→Shared→Prop
structure Jh (P:Program) (w:World) (K:PySem.W.Frag) (mg:Str→Option Value) (base:Heap) (A:Around) (outer:List Env) (s:Shared) (H:Hp):Prop where
 frames:A.frames=some outer
 mod:Mod K mg base
 bs:∀ b o,base.get? b=some o→s.heap.get? b=some o∧H b=none
 bsz:base.objs.size≤s.heap.objs.size
 funs:s.heap.FunFrames base outer
 frf:∀ b∈frs outer,H b=none
 hok:HOk P w H s.heap
 bare:AllBare s.gens
def CE (outer:List Env) (P:Program) (w:World) (H:Hp) (s:Shared) (Q:VK) (u:Value) (s':Shared):Prop :=
 ∃ v H',s'.os=s.os∧AllBare s'.gens∧Un (frs outer) [] H H' s.heap s'.heap∧HOk P w H' s'.heap∧RelV v u∧Q v H'
def CR (CX:CXT) (outer:List Env) (P:Program) (w:World) (H:Hp) (s:Shared) (Q:VK) (E:XK) (r:Result) (s':Shared):Prop :=
 match r with
 | .ok (.ret u)=>CE outer P w H s Q u s'
 | .ok _=>False
 | .error e=>CX outer H s E e s'
structure n8 (P:Program) (w:World) (K:PySem.W.Frag) (mg:Str→Option Value) (base:Heap) (CX:CXT) (k:Nat) (f:Addr) (fd:FuncData) (ps:List Str) (sp:Sp):Prop where
 len:∀ vs H Q E,sp vs H Q E→vs.length=ps.length
 run:∀ (A:Around) (outer:List Env) (s:Shared) (H:Hp) (args:Args) (us:List Value) (vs:List V) (Q:VK) (E:XK),j7 k A→Jh P w K mg base A outer s H→BindsTo s fd args (ps.zip us)→Vals vs us→sp vs H Q E →
  codeAny (model P w) A (.call (.ref f) args) (CR CX outer P w H s Q E) s
theorem n8.imp {P:Program} {w:World} {K:PySem.W.Frag} {mg:Str→Option Value} {base:Heap} {CX:CXT} {k:Nat} {f:Addr} {fd:FuncData} {ps:List Str} {sp sp':Sp} (F:n8 P w K mg base CX k f fd ps sp)
  (h:∀ vs H Q E,sp' vs H Q E→sp vs H Q E):n8 P w K mg base CX k f fd ps sp' :=
 ⟨fun vs H Q E q=>F.len vs H Q E (h _ _ _ _ q),fun A outer s H args us vs Q E hr he hb hv hs=>F.run A outer s H args us vs Q E hr he hb hv (h _ _ _ _ hs)⟩
section
variable {X:Cx} {pins:List (Addr × Obj)} {σ:St} {H:Hp} {s s':Shared}
theorem Inv.env0 (I:Inv X pins σ H s):Jh X.prog X.w X.K X.mg X.base X.A X.stack s H :=
 ⟨I.ok.frames,I.ok.mod,I.bs,Nat.le_trans I.ok.bsz I.sz,I.stack,I.stkFree,I.hok,I.bare⟩
theorem Inv.after {Q:VK} {u:Value} (I:Inv X pins σ H s) (h:CE X.stack X.prog X.w H s Q u s'):EP X pins σ Q u s':=by
 obtain ⟨v,H',os,bare,un,hok,r,q⟩:=h
 obtain ⟨hh,g,d,t,os'⟩:=s'
 obtain rfl:os'=s.os:=os
 exact ⟨v,H',I.call (h':=hh) (g':=g) (d':=d) (t':=t) (ch:=[]) un hok bare (fun b z=>absurd z (by simp)),r,q⟩
end
def Jc (sp:Sp) (dvs:List V) (E:XK) (t:TA):TE:=fun σ H Q=>t σ H fun vs H1=>sp (vs++dvs) H1 Q E
def Binds (K:PySem.W.Frag) (fd:FuncData) (ps:List Str) (ds:List Value):Prop :=
 ∀ (s:Shared) (us:List Value),K.In s.heap→(us++ds).length=ps.length→BindsTo s fd ⟨us,[]⟩ (ps.zip (us++ds))
theorem Binds.all {K:PySem.W.Frag} {fd:FuncData} {ps:List Str} (h:∀ us:List Value,us.length=ps.length→bindArgs fd ⟨us,[]⟩=pure (ps.zip us)):Binds K fd ps []:=fun s us _ hl=>by
 rw [List.append_nil] at hl ⊢
 exact .of_eq (h us hl)
def Passes (CX:CXT) (X:Cx) (E:XK):Prop:=∀ (pins:List (Addr × Obj)) (σ:St) (H:Hp) (s:Shared) (e:Value) (s':Shared),Inv X pins σ H s→CX X.stack H s E e s'→X.xe e s'
section
variable {X:Cx} {CX:CXT} {k:Nat} {f C:Addr} {fd:FuncData} {ps:List Str} {sp:Sp} {dvs:List V} {ds:List Value} {E:XK} {x m:Str} {p pos apos:Pos} {e o:Expr} {es:List Expr} {ta:TE} {t:TA}
theorem Ie {pins:List (Addr × Obj)} {σ:St} {H:Hp} {s:Shared} {Q:VK} {us:List Value} {vs:List V} (F:n8 X.prog X.w X.K X.mg X.base CX k f fd ps sp) (hr:j7 k X.A) (hb:Binds X.K fd ps ds) (hd:Vals dvs ds) (hx:Passes CX X E)
  (I:Inv X pins σ H s) (r:Vals vs us) (h:sp (vs++dvs) H Q E):wpAny (model X.prog X.w) X.A (call (.ref f) us) (EP X pins σ Q) X.xe s:=by
 have r2:Vals (vs++dvs) (us++ds):=r.append hd
 have hl:(us++ds).length=ps.length:=by rw [← r2.length]; exact F.len _ _ _ _ h
 refine wpAny_call (codeAny_mono (F.run X.A X.stack s H ⟨us,[]⟩ (us++ds) (vs++dvs) Q E hr I.env0 (hb s us I.kIn hl) r2 h) fun r s' hq=>?_)
 cases r with
 | error e=>exact hx pins σ H s e s' I hq
 | ok fl =>
  cases fl with
  | ret u=>exact I.after hq
  | next=>exact False.elim hq
  | brk=>exact False.elim hq
  | cont=>exact False.elim hq
theorem Aa (F:n8 X.prog X.w X.K X.mg X.base CX k f fd ps sp) (hr:j7 k X.A) (hg:Gl X x) (hm:X.mg x=some (.ref f)) (hk:PySem.W.keepIn X.K (.ref f)=true) (hb:Binds X.K fd ps ds) (hd:Vals dvs ds) (hx:Passes CX X E)
  (ha:PA X (e :: es) t) (hdb:(x == ("__debug__" : Str))=false:=by decide) (he:starEach (e :: es) X.env=(false,eval e X.env) :: starEach es X.env:=by rfl) (hpl:(backTo pos (starEach es X.env)).any (·.1)=false:=by rfl) :
  PE X (.Call (.Name x p) (e :: es) [] pos) (Jc sp dvs E t):=by
 intro pins s σ H Q I h
 refine wpAny_Call_Name_kw (xT I hg hm ?_ hdb)
 refine PySem.W.callWith_K (h₀:=X.base) I.ok.mod.kin hk (thn (ha pos pins s σ H _ I h) fun us s1 ⟨vs,H1,I1,r,q⟩=>⟨I1.kIn,?_⟩) he hpl
 exact Ie F hr hb hd hx I1 r q
structure Mk (K:PySem.W.Frag) (C f:Addr):Prop where
 makes:PySem.W.makesIn K C=true
 init:PySem.W.findIn K (.ref C) "__init__" = some (some (.ref f))
 fn:PySem.W.isFn K (.ref f)=true
 kp:PySem.W.keepIn K (.ref C)=true
end
section
variable {X:Cx} {CX:CXT} {k:Nat} {f C:Addr} {fd:FuncData} {ps ks:List Str} {sp:Sp} {E:XK} {x m:Str} {p pos apos kpos:Pos} {e o:Expr} {es:List Expr} {kws:List Keyword} {te ta:TE} {t tk:TA} {nm:Option Str}
structure Mf (K:PySem.W.Frag) (fd:FuncData) (ps ks:List Str) (g:List Value→List Value→List Value) (gV:List V→List V→List V):Prop where
 to:∀ (s:Shared) (us ws:List Value),K.In s.heap→(g us ws).length=ps.length→BindsTo s fd ⟨us,ks.zip ws⟩ (ps.zip (g us ws))
 rel:∀ {vs:List V} {us:List Value} {zs:List V} {ws:List Value},Vals vs us→Vals zs ws→Vals (gV vs zs) (g us ws)
variable {g:List Value→List Value→List Value} {gV:List V→List V→List V}
end
structure aP (N P:List Str) (sc:Scope):Prop where
 kind:sc.kind=.function
 co:sc.isCoroutine=false
 gen:sc.isGenerator=false
 nd:N.Nodup
 pre:N.take P.length=P
 par:∀ x∈P,sc.names.lookup x=some .local∨sc.names.lookup x=some .cell
 nofree:∀ y∈sc.names,y.2≠.free
theorem pY {kindOf:Str→Option NameKind} {x:Str}:∀ {binds:List (Str × Value)} {m:Str→Option Value},(∀ v,(x,v) ∉ binds)→bindL kindOf binds m x=m x
 | [],_,_=>rfl
 | (n,v) :: r,m,h=>by
  unfold bindL
  rw [pY fun w hw=>h w (List.mem_cons_of_mem _ hw)]
  split
  ·have:x≠n:=by rintro rfl; exact h v List.mem_cons_self
   simp [this]
  ·rfl
theorem pO {kindOf:Str→Option NameKind} {x:Str}:∀ {binds:List (Str × Value)} {m:Str→Option Value},(∀ v,(x,v) ∉ binds)→bindC kindOf binds m x=m x
 | [],_,_=>rfl
 | (n,v) :: r,m,h=>by
  unfold bindC
  rw [pO fun w hw=>h w (List.mem_cons_of_mem _ hw)]
  split
  ·rfl
  ·have:x≠n:=by rintro rfl; exact h v List.mem_cons_self
   simp [this]
theorem pQ {kindOf:Str→Option NameKind} {x:Str} {v:Value}:∀ {P:List Str} {vs:List Value} {i:Nat} {m:Str→Option Value},P.Nodup→P[i]?=some x→vs[i]?=some v→kindOf x=some .local →
  bindL kindOf (P.zip vs) m x=some v
 | [],_,_,_,_,h,_,_=>by simp at h
 | _ :: _,[],_,_,_,_,h,_=>by simp at h
 | p :: P,w :: vs,0,m,nd,h1,h2,hk=>by
  simp at h1 h2; subst h1; subst h2
  show bindL kindOf ((p,w) :: P.zip vs) m p=_
  unfold bindL
  rw [pY fun v hv=>(List.nodup_cons.mp nd).1 (List.of_mem_zip hv).1,if_pos hk]
  simp
 | p :: P,w :: vs,i+1,m,nd,h1,h2,hk=>by
  show bindL kindOf ((p,w) :: P.zip vs) m x=_
  unfold bindL
  exact pQ (i:=i) (List.nodup_cons.mp nd).2 (by simpa using h1) (by simpa using h2) hk
theorem qt {kindOf:Str→Option NameKind} {x:Str} {v:Value}:∀ {P:List Str} {vs:List Value} {i:Nat} {m:Str→Option Value},P.Nodup→P[i]?=some x→vs[i]?=some v→kindOf x≠some .local →
  bindC kindOf (P.zip vs) m x=some v
 | [],_,_,_,_,h,_,_=>by simp at h
 | _ :: _,[],_,_,_,_,h,_=>by simp at h
 | p :: P,w :: vs,0,m,nd,h1,h2,hk=>by
  simp at h1 h2; subst h1; subst h2
  show bindC kindOf ((p,w) :: P.zip vs) m p=_
  unfold bindC
  rw [pO fun v hv=>(List.nodup_cons.mp nd).1 (List.of_mem_zip hv).1,if_neg hk]
  simp
 | p :: P,w :: vs,i+1,m,nd,h1,h2,hk=>by
  show bindC kindOf ((p,w) :: P.zip vs) m x=_
  unfold bindC
  exact qt (i:=i) (List.nodup_cons.mp nd).2 (by simpa using h1) (by simpa using h2) hk
def start (N:List Str) (vs:List V):St:=vs.map some++List.replicate (N.length - vs.length) none
def Fz (CX:CXT) (P:Program) (w:World) (K:PySem.W.Frag) (mg:Str→Option Value) (base:Heap) (N:List Str) (qual:Str) (scope:Scope) (f:Addr) (cd:Value) (A:Around) (outer:List Env) (s:Shared) (H:Hp) (E:XK):Cx where
 prog:=P
 w:=w
 K:=K
 mg:=mg
 base:=base
 A:=A.deeper (envOfC qual scope s.heap.objs.size f cd)
 N:=N
 s₀:=s
 H₀:=H
 env:=envOfC qual scope s.heap.objs.size f cd
 outer:=outer
 stack:=envOfC qual scope s.heap.objs.size f cd :: outer
 ex:=[]
 calm:=true
 fn:=fun _=>true
 pn:=[]
 xe:=fun e s'=>wpAny (model P w) (A.deeper (envOfC qual scope s.heap.objs.size f cd)) (leaving (envOfC qual scope s.heap.objs.size f cd) e) (fun _ s''=>CX outer H s E e s'') (fun e' s''=>CX outer H s E e' s'') s'
theorem ud {sc:Scope} {n:Nat} {x:Str} (h:sc.names.lookup x=some .cell):∃ c,(cellsFrom n sc.names []).lookup x=some c:=by
 have q:=PySem.W.cellsFrom_some sc.names n [] (.inl h)
 exact Option.isSome_iff_exists.mp q
theorem zN {CX:CXT} {P:Program} {w:World} {K:PySem.W.Frag} {mg:Str→Option Value} {base:Heap} {N ps:List Str} {qual:Str} {scope:Scope} {f:Addr} {cd:Value} {A:Around} {outer:List Env} {s s1:Shared} {H:Hp} {E:XK} {us:List Value} {vs:List V}
  (S:aP N ps scope) (hd:A.handled=none) (e0:Jh P w K mg base A outer s H) (hl:vs.length=ps.length) (r:Vals vs us)
  (x:InCallC s s.heap.objs.size (bindL (envOfC qual scope s.heap.objs.size f cd).kindOf (ps.zip us) fun _=>none) (cellsFrom (s.heap.objs.size+1) scope.names []) (bindC (envOfC qual scope s.heap.objs.size f cd).kindOf (ps.zip us) fun _=>none) s1) :
  Inv (Fz CX P w K mg base N qual scope f cd A outer s H E) [] (start N vs) H s1:=by
 have hpl:ps.length≤N.length:=by have:=congrArg List.length S.pre; rw [List.length_take] at this; omega
 obtain ⟨h1,tk,rfl,hk⟩:=x.done
 have noA:∀ b:Addr,b ∉ (Fz CX P w K mg base N qual scope f cd A outer s H E).ex:=fun b z=>absurd (show b∈([]:List Addr) from z) (by simp)
 refine ⟨⟨e0.mod,S.kind,rfl,rfl,Nat.le_refl _,fun y z c h1 h2=>?_,fun y hy=>?_,fun y c _ h=>?_,fun _=>hd,Around.frames_deeper e0.frames,.inr ⟨rfl,rfl⟩,fun b z=>absurd z (noA b),e0.bs,e0.bsz,fun b _ _=>noA b,fun b z=>absurd z (noA b),e0.funs,e0.frf⟩,
  rfl,e0.bare,Un.kept hk,⟨_,x.toInCall.ns,fun i y v h1 h2 h3=>?_⟩,fun y c h=>⟨_,x.cell y c h⟩,e0.hok.fresh (Nat.le_refl _),fun y c h=>?_,fun p hp=>absurd (show p∈([]:List (Addr × Obj)) from hp) (by simp),e0.hok.kept hk,?_⟩
 ·exact name_of_addr x.apart (PySem.mem_of_lookup h1) (PySem.mem_of_lookup h2)
 ·have hy:scope.names.lookup y=some .cell∨scope.names.lookup y=some .free:=hy
  rcases hy with hy | hy
  ·exact ud hy
  ·exact absurd rfl (S.nofree _ (PySem.mem_of_lookup hy))
 ·exact Nat.le_of_lt (x.above y c (PySem.mem_of_lookup h))
 ·have hi:i < vs.length:=by
   unfold start at h2
   by_cases hi:i < vs.length
   ·exact hi
   ·rw [List.getElem?_append_right (by simpa using hi)] at h2
    rw [List.getElem?_replicate] at h2
    split at h2 <;> cases h2
  have ha:vs[i]?=some v:=by
   unfold start at h2
   rw [List.getElem?_append_left (by simpa using hi),List.getElem?_map] at h2
   cases e:vs[i]? with
   | none=>rw [e] at h2; cases h2
   | some a=>rw [e] at h2; cases h2; rfl
  obtain ⟨u,hu,rv⟩:=r.get ha
  have hp:ps[i]?=some y:=by
   rw [← S.pre,List.getElem?_take_of_lt (by omega)]; exact h1
  have ndP:ps.Nodup:=by rw [← S.pre]; exact S.nd.sublist (List.take_sublist _ _)
  refine ⟨u,rv,?_⟩
  rcases S.par y (List.mem_of_getElem? hp) with k | k
  ·exact .inl ⟨k,pQ ndP hp hu k⟩
  ·obtain ⟨c,e⟩:=ud (n:=s.heap.objs.size+1) k
   refine .inr ⟨.inl k,c,e,?_⟩
   have q:=x.cell y c e
   rw [qt ndP hp hu (by show scope.names.lookup y≠_; rw [k]; decide)] at q
   exact q
 ·exact e0.hok.fresh (Nat.le_of_lt (x.above y c (PySem.mem_of_lookup h)))
 ·unfold start
  show _=N.length
  rw [List.length_append,List.length_map,List.length_replicate]
  omega
theorem Lh {CX:CXT} {P:Program} {w:World} {K:PySem.W.Frag} {mg:Str→Option Value} {base:Heap} {k:Nat} {f:Addr} {name qual:Str} {params:Arguments} {body:List Stmt} {scope:Scope} {dV kV doc pm cdv ct oc:Value} {an od:Option Addr}
  {osl:Array (Option Value)} {N ps:List Str} {sp:Sp} (lk:K.lookup f=some ⟨oc,od,.func (PySem.W.fnOf name qual params body scope dV kV doc pm an cdv ct),osl⟩) (hcd:PySem.W.codeIn K cdv qual=true) (S:aP N ps scope)
  (len:∀ vs H Q E,sp vs H Q E→vs.length=ps.length)
  (hbody:∀ (A:Around) (outer:List Env) (s:Shared) (H:Hp) (vs:List V) (Q:VK) (E:XK),j7 k (A.deeper (envOfC qual scope s.heap.objs.size f cdv))→sp vs H Q E →
   ∃ t,PSs (Fz CX P w K mg base N qual scope f cdv A outer s H E) body t∧t { nx:=fun _ H'=>Q .non H',rt:=Q } (start N vs) H) :
  n8 P w K mg base CX (k+1) f (PySem.W.fnOf name qual params body scope dV kV doc pm an cdv ct) ps sp:=by
 refine ⟨len,fun A outer s H args us vs Q E hr e0 hb r hsp=>?_⟩
 have hl:=len _ _ _ _ hsp
 have KX:K.In s.heap:=e0.mod.kin.keeps fun b o e=>(e0.bs b o e).1
 have lim:s.heap.NoLimit:=e0.mod.nolimit.keeps fun b o e=>(e0.bs b o e).1
 have hkind:∀ y∈ps.zip us,scope.names.lookup y.1=some .local∨(scope.names.lookup y.1=some .cell∧((cellsFrom (s.heap.objs.size+1) scope.names []).lookup y.1).isSome=true):=fun ⟨n,v⟩ hy=>by
  rcases S.par n (List.of_mem_zip hy).1 with q | q
  ·exact .inl q
  ·exact .inr ⟨q,PySem.W.cellsFrom_some _ _ _ (.inl q)⟩
 refine codeAny_call_function hr.depth (KX _ _ lk) rfl S.co S.gen rfl (PySem.W.codeRec_of KX hcd) (hb _ _ _ _ ?_)
 refine wpAny_newFunctionEnv_cells S.kind hkind fun env he s1 x=>?_
 subst he
 refine ⟨lim.keeps x.toInCall.keep,codeAny_func ?_⟩
 obtain ⟨t,ht,hq⟩:=hbody A outer s H vs Q E (hr.deeper _) hsp
 have I:Inv (Fz CX P w K mg base N qual scope f cdv A outer s H E) [] (start N vs) H s1:=zN S hr.hd e0 hl r x
 refine wpAny_mono (ht [] s1 (start N vs) H _ I hq) (fun fl s' hs=>?_) fun e s' hs=>hs
 have fin:∀ {σ':St} {H':Hp} {v:V} {u:Value},Inv (Fz CX P w K mg base N qual scope f cdv A outer s H E) [] σ' H' s'→RelV v u→Q v H'→CE outer P w H s Q u s' :=
  fun {σ' H' v u} J rv q=>⟨v,H',J.os,J.bare,J.base,J.hok,rv,q⟩
 cases fl with
 | ret u =>
  obtain ⟨v,σ',H',J,rv,q⟩:=hs
  exact fin J rv q
 | next =>
  obtain ⟨σ',H',J,q⟩:=hs
  exact fin (v:=V.non) (u:=Value.none) J rfl q
 | brk =>
  obtain ⟨_,_,_,q⟩:=hs
  exact False.elim q
 | cont =>
  obtain ⟨_,_,_,q⟩:=hs
  exact False.elim q
end L2
namespace L2
open PySem PySem.Spec PyProof.Rows
section
variable {X:Cx} {x:Str} {p pos:Pos} {e:Expr} {es:List Expr} {t:TA} {id T:String} {r:List V→Hp→VK→Prop}
def tCB (r:List V→Hp→VK→Prop) (t:TA):TE:=fun σ H Q=>t σ H fun vs H1=>r vs H1 Q
theorem aG (hc:fK X (.builtin id) r) (hg:Gl X x) (hm:X.mg x=none) (hv:bootBuiltins x=some (.builtin id)) (ha:PA X (e :: es) t) (hn:x ≠ "__name__":=by decide) (hdb:(x == ("__debug__" : Str))=false:=by decide)
  (he:starEach (e :: es) X.env=(false,eval e X.env) :: starEach es X.env:=by rfl) (hpl:(backTo pos (starEach es X.env)).any (·.1)=false:=by rfl):PE X (.Call (.Name x p) (e :: es) [] pos) (tCB r t):=by
 intro pins s σ H Q I h
 refine wpAny_Call_Name_kw (jT I hg hm hv ?_ hn hdb)
 exact PyProof.Rows.callWith_builtin1 (thn (ha pos pins s σ H _ I h) fun us s1 ⟨vs,H1,I1,r1,q1⟩=>hc pins s1 σ H1 vs us Q I1 r1 q1) he hpl
theorem bV (hc:fK X (.type T) r) (hg:Gl X x) (hm:X.mg x=none) (hv:bootBuiltins x=some (.type T)) (ha:PA X (e :: es) t) (hn:x ≠ "__name__":=by decide) (hdb:(x == ("__debug__" : Str))=false:=by decide)
  (he:starEach (e :: es) X.env=(false,eval e X.env) :: starEach es X.env:=by rfl) (hpl:(backTo pos (starEach es X.env)).any (·.1)=false:=by rfl):PE X (.Call (.Name x p) (e :: es) [] pos) (tCB r t):=by
 intro pins s σ H Q I h
 refine wpAny_Call_Name_kw (jT I hg hm hv ?_ hn hdb)
 exact PyProof.Rows.callWith_type1 (thn (ha pos pins s σ H _ I h) fun us s1 ⟨vs,H1,I1,r1,q1⟩=>hc pins s1 σ H1 vs us Q I1 r1 q1) he hpl
end
end L2
namespace HT
open PySem PyProof.Rows
section
open PySem.SeqAt
open PySem.AutoSeq1 (wpAny_loadPart')
open PySem.MeetsSeq PySem.MeetsSeq2 PySem.MeetsSeq3
end
section
variable {prog:Program} {w:World} {A:Around} {E:Value→Shared→Prop} {s:Shared}
theorem Ez {t b:Addr} {vs ws:List Value} {Q:Value→Shared→Prop} (ht:IsTup s.heap t vs.toArray) (hb:IsTup s.heap b ws.toArray) (hv:vs≠[])
  (h1:ws=[]→Q (.ref t) s) (h2:ws≠[]→Q (.ref s.heap.objs.size) { s with heap:=s.heap.push { cls:=.type "tuple",data:=.seq (vs++ws).toArray } })
  (hsz:vs.length+ws.length≤sizeLine):wpAny (model prog w) A (binaryOp .Add (.ref t) (.ref b)) Q E s:=by
 obtain ⟨⟨cls,dd,data,sl⟩,ho,hc,n,hd⟩:=id ht
 obtain ⟨⟨cls2,dd2,data2,sl2⟩,ho2,hc2,n2,hd2⟩:=id hb
 simp only at hc hd hc2 hd2
 subst hc hd hc2 hd2
 have e:vs.toArray++ws.toArray=(vs++ws).toArray:=by simp
 by_cases hw:ws=[]
 ·exact concat_meets ⟨_,ho,rfl⟩ ⟨_,ho2,rfl⟩ noFill_tuple_add seq_tuple_add PySem.F.slot_tuple_add PySem.F.entry_tuple_add (PySem.F.args_tuple_add_2 _ _)
   (tuple_addW1 t b vs.toArray ws.toArray n n2 dd dd2 sl sl2 (by simpa using hv) (by simp [hw])) ⟨ho,ho2,h1 hw⟩
 ·refine concat_meets ⟨_,ho,rfl⟩ ⟨_,ho2,rfl⟩ noFill_tuple_add seq_tuple_add PySem.F.slot_tuple_add PySem.F.entry_tuple_add (PySem.F.args_tuple_add_2 _ _)
   (tuple_addW2 t b vs.toArray ws.toArray n n2 dd dd2 sl sl2 (by simpa using hv) (by simpa using hw) (by rw [List.size_toArray,List.size_toArray]; exact hsz)) ⟨ho,ho2,?_⟩
  rw [e]
  exact h2 hw
def sIx (n d:Nat):Option Int→Nat
 | none=>d
 | some v=>if v < 0 then (v+(n:Int)).toNat else min v.toNat n
theorem iV (n d:Nat):sIx n d none=d:=rfl
theorem mU (n d k:Nat):sIx n d (some (k:Int))=min k n:=by
 show (if (k:Int) < 0 then ((k:Int)+(n:Int)).toNat else min (k:Int).toNat n)=min k n
 rw [if_neg (by omega),Int.toNat_natCast]
theorem Ia (n d:Nat) (hd:d≤n) (o:Option Int):sIx n d o≤n:=by
 cases o with
 | none=>exact hd
 | some v =>
  show (if v < 0 then (v+(n:Int)).toNat else min v.toNat n)≤n
  by_cases hv:v < 0
  ·rw [if_pos hv]; omega
  ·rw [if_neg hv]; exact Nat.min_le_right _ _
theorem yK (v:Int) (n d:Nat):(if v < 0 then max (v+(n:Int)) 0 else min v (n:Int))=((sIx n d (some v):Nat):Int):=by
 show (if v < 0 then max (v+(n:Int)) 0 else min v (n:Int))=(((if v < 0 then (v+(n:Int)).toNat else min v.toNat n):Nat):Int)
 by_cases hv:v < 0
 ·simp only [if_pos hv]; omega
 ·simp only [if_neg hv]; omega
theorem vD (lo hi:Option Int) (n:Nat):Builtin.Slice.sliceAdjust lo hi 1 (n:Int)=(((sIx n 0 lo:Nat):Int),((sIx n n hi:Nat):Int)):=by
 have h1:¬ ((1:Int) < 0):=by omega
 unfold Builtin.Slice.sliceAdjust
 simp only [h1,if_false]
 refine Prod.ext ?_ ?_
 ·cases lo with
  | none=>rfl
  | some v=>exact yK v n 0
 ·cases hi with
  | none=>rfl
  | some v=>exact yK v n n
theorem uX (i j:Nat):Builtin.Slice.slicePlaces (i:Int) (j:Int) 1=j - i:=by
 unfold Builtin.Slice.slicePlaces
 have h1:(1:Int) > 0:=by omega
 simp only [h1,if_true,Int.ediv_one]
 split <;> omega
theorem mK {v:Value} {o:Option Int} {Q:Option Int→Shared→Prop} (p:IsPart v o) (h:Q o s):wpAny (model prog w) A (Builtin.Slice.slicePartIndex v) Q E s:=by
 cases p with
 | none=>exact slicePart_none h
 | int i t=>exact slicePart_int h
theorem gD {sl:Addr} {vl vu:Value} {lo hi:Option Int} {n:Nat} {Q:Int × Int × Nat→Shared→Prop} (hs:s.heap.IsSliceOf sl vl vu .none) (pl:IsPart vl lo) (pu:IsPart vu hi)
  (h:Q (((sIx n 0 lo:Nat):Int),1,sIx n n hi - sIx n 0 lo) s):wpAny (model prog w) A (Builtin.Slice.sliceApplied (.ref sl) (pure (n:Int))) Q E s:=by
 obtain ⟨os,hos,hcs,hds⟩:=id hs
 unfold Builtin.Slice.sliceApplied Builtin.Slice.sliceFields
 refine wpAny_bind (wpAny_bind (wpAny_field hos hds (x:=vl) rfl (wpAny_bind (wpAny_field hos hds (x:=vu) rfl (wpAny_bind (wpAny_field hos hds (x:=.none) rfl (wpAny_pure ?_)))))))
 refine wpAny_bind (slicePart_none ?_)
 show wpAny _ _ (if ((1:Int) == 0)=true then _ else _) _ _ s
 rw [if_neg (by decide)]
 refine wpAny_bind (mK pl (wpAny_bind (mK pu (wpAny_bind (wpAny_pure ?_)))))
 show wpAny _ _ (match Builtin.Slice.sliceAdjust lo hi 1 (n:Int) with | (lo,hi)=>pure (lo,(1:Int),Builtin.Slice.slicePlaces lo hi 1)) _ _ s
 rw [vD lo hi n]
 show wpAny _ _ (pure (((sIx n 0 lo:Nat):Int),(1:Int),Builtin.Slice.slicePlaces ((sIx n 0 lo:Nat):Int) ((sIx n n hi:Nat):Int) 1)) _ _ s
 rw [uX]
 exact wpAny_pure h
theorem Bc (xs:Array Value) (i k:Nat):((List.range k).filterMap fun (m:Nat)=>xs[((i:Int)+(m:Int) * 1).toNat]?).toArray=((xs.toList.drop i).take k).toArray:=by
 have e:(fun (m:Nat)=>xs[((i:Int)+(m:Int) * 1).toNat]?)=fun m=>xs[i+m]?:=by
  funext m
  have:((i:Int)+(m:Int) * 1).toNat=i+m:=by omega
  rw [this]
 rw [e]
 have:=pick_run xs i k
 rw [List.filterMap_map] at this
 have e2:((fun x=>xs[x]?) ∘ fun x=>i+x)=fun m=>xs[i+m]?:=rfl
 rw [e2] at this
 rw [this]
theorem jE {t sl:Addr} {items:Array Value} {vl vu:Value} {lo hi:Option Int} {Q:Value→Shared→Prop} (ht:IsTup s.heap t items) (hs:s.heap.IsSliceOf sl vl vu .none) (pl:IsPart vl lo) (pu:IsPart vu hi)
  (hw:¬ (sIx items.size 0 lo=0∧sIx items.size items.size hi=items.size))
  (h:Q (.ref s.heap.objs.size) { s with heap:=s.heap.push { cls:=.type "tuple",data:=.seq ((items.toList.drop (sIx items.size 0 lo)).take (sIx items.size items.size hi - sIx items.size 0 lo)).toArray } })
  (hsz:items.size≤sizeLine):wpAny (model prog w) A (getItem (.ref t) (.ref sl)) Q E s:=by
 have htake:sizeOk (.seq ((items.toList.drop (sIx items.size 0 lo)).take (sIx items.size items.size hi - sIx items.size 0 lo)).toArray):=by
  show ((items.toList.drop (sIx items.size 0 lo)).take (sIx items.size items.size hi - sIx items.size 0 lo)).toArray.size≤sizeLine
  rw [List.size_toArray,List.length_take,List.length_drop,Array.length_toList]
  omega
 have hj:sIx items.size items.size hi≤items.size:=Ia _ _ (Nat.le_refl _) hi
 obtain ⟨os,hos,hcs,hds⟩:=id hs
 have hTs:s.TypeIs (.ref sl) "slice":=⟨os,hos,hcs⟩
 unfold getItem
 try with_reducible refine wpAny_holding ?_
 first | refine wpAny_bind (wpAny_pure ?_) | skip
 refine wpAny_bind (wpAny_sequenceKey ht.typeIs (by decide) ?_)
 refine wpAny_bind (wpAny_callSpecial?_slot (name:=Str.ofString "__getitem__") ht.typeIs PyProof.Rows.slot_tuple_getitem
  (wpAny_call_entry PyProof.Rows.slot_tuple_getitem ht.typeIs entry_tuple_getitem ?_ (args_tuple_getitem _ _)))
 show wpAny _ _ (Builtin.Tuple.tupleItemsOf (.ref t) >>= _) _ _ s
 refine wpAny_bind (tupleItemsOf_ ht ?_)
 refine wpAny_bind (wpAny_typeOf hTs ?_)
 rw [if_pos (by decide)]
 refine wpAny_bind (gD hs pl pu ?_)
 have hno:¬ ((((sIx items.size 0 lo:Nat):Int) == 0 && (1:Int) == 1 && (sIx items.size items.size hi - sIx items.size 0 lo) == items.size)=true):=by
  intro q
  rw [Bool.and_eq_true,Bool.and_eq_true] at q
  have q1:((sIx items.size 0 lo:Nat):Int)=0:=eq_of_beq q.1.1
  have q2:sIx items.size items.size hi - sIx items.size 0 lo=items.size:=eq_of_beq q.2
  exact hw ⟨by omega,by omega⟩
 show wpAny _ _ (if (((sIx items.size 0 lo:Nat):Int) == 0 && (1:Int) == 1 && (sIx items.size items.size hi - sIx items.size 0 lo) == items.size)=true then _ else _) _ _ s
 rw [if_neg hno,Bc]
 first
  | exact wpAny_bind (m:=Builtin.Tuple.tupleExact _) (wpAny_newObj_type (wpAny_pure ⟨_,rfl,wpAny_pure h⟩) htake)
  | exact wpAny_bind (m:=Builtin.Tuple.tupleExact _) (wpAny_newObj_type (wpAny_bind (wpAny_pure (wpAny_pure ⟨_,rfl,wpAny_pure h⟩))) htake)
  | exact wpAny_bind (wpAny_bind (m:=Builtin.Tuple.tupleExact _) (wpAny_newObj_type (wpAny_pure (wpAny_pure ⟨_,rfl,wpAny_pure h⟩)) htake))
  | exact wpAny_bind (wpAny_bind (m:=Builtin.Tuple.tupleExact _) (wpAny_newObj_type (wpAny_pure ⟨_,rfl,wpAny_pure h⟩) htake))
end
end HT
namespace L2
open PySem PySem.Spec PyProof.Rows
abbrev TO:=St→Hp→(Option Int→Hp→Prop)→Prop
def PO (X:Cx) (e:Option Expr) (t:TO):Prop :=
 ∀ (pins:List (Addr × Obj)) (s:Shared) (σ:St) (H:Hp) (Q:Option Int→Hp→Prop),Inv X pins σ H s→t σ H Q →
  wpAny (model X.prog X.w) X.A (evalPart e X.env) (fun u s'=>∃ o H',Inv X pins σ H' s'∧IsPart u o∧Q o H') X.xe s
def FT:TO:=fun _ H Q=>Q none H
def Ke (t:TE):TO:=fun σ H Q=>t σ H fun x H1=>∃ i,x=.int i∧Q (some i) H1
section
variable {X:Cx} {e:Expr} {te:TE} {lo hi:Option Expr} {tl th:TO} {pos p2:Pos}
theorem fY:PO X none FT:=by
 intro pins s σ H Q I h
 rw [evalPart_none]
 exact wpAny_pure ⟨none,H,I,.none,h⟩
theorem gq (h:PE X e te):PO X (some e) (Ke te):=by
 intro pins s σ H Q I hw
 rw [evalPart_some]
 refine thn (h pins s σ H _ I hw) fun u s1 ⟨x,H1,I1,r1,q1⟩=>?_
 obtain ⟨i,rfl,q⟩:=q1
 obtain ⟨t,rfl⟩:=r1
 exact ⟨some i,H1,I1,.int i t,q⟩
def SlR (X:Cx) (r:V→Option Int→Option Int→Hp→VK→Prop):Prop :=
 ∀ (pins:List (Addr × Obj)) (s:Shared) (σ:St) (H:Hp) (x:V) (v vl vu:Value) (lo hi:Option Int) (sl:Addr) (Q:VK),Inv X pins σ H s→RelV x v→s.heap.IsSliceOf sl vl vu .none→IsPart vl lo→IsPart vu hi→r x lo hi H Q →
  ∃ T id,typeLookup (.type T) "__getitem__" = pure (some (.builtin id))∧s.TypeIs v T∧wpAny (model X.prog X.w) X.A (getItem v (.ref sl)) (EP X pins σ Q) X.xe s
def tSl (r:V→Option Int→Option Int→Hp→VK→Prop) (te:TE) (tl th:TO):TE:=fun σ H Q=>te σ H fun x H1=>tl σ H1 fun l H2=>th σ H2 fun u H3=>r x l u H3 Q
theorem eV {r:V→Option Int→Option Int→Hp→VK→Prop} (hr:SlR X r) (he:PE X e te) (hl:PO X lo tl) (hu:PO X hi th):PE X (.Subscript e (.Slice lo hi none p2) pos) (tSl r te tl th):=by
 intro pins s σ H Q I h
 refine Subscript_ (thn (he pins s σ H _ I h) fun v s1 ⟨x,H1,I1,r1,q1⟩=>?_)
 refine wpAny_Slice (thn (hl pins s1 σ H1 _ I1 q1) fun vl s2 ⟨l,H2,I2,pl,q2⟩=>thn (hu pins s2 σ H2 _ I2 q2) fun vu s3 ⟨u,H3,I3,pu,q3⟩=>?_)
 rw [evalPart_none]
 refine wpAny_pure ?_
 have I4:Inv X pins σ H3 { s3 with heap:=s3.heap.push { cls:=.type "slice",data:=.fields #[vl,vu,.none] } }:=I3.kept (t':=s3.toks) fun b ob q=>Heap.get?_push_of_some _ q
 obtain ⟨T,id,hT,ht,hg⟩:=hr pins { s3 with heap:=s3.heap.push { cls:=.type "slice",data:=.fields #[vl,vu,.none] } } σ H3 x v vl vu l u s3.heap.objs.size Q I4 r1 (Heap.IsSliceOf.new ..) pl pu q3
 show wpAny (model X.prog X.w) X.A (subscriptTail e (.Slice lo hi none p2) v (.ref s3.heap.objs.size)) (EP X pins σ Q) X.xe { s3 with heap:=s3.heap.push { cls:=.type "slice",data:=.fields #[vl,vu,.none] } }
 exact tail_any (ops:=[.ref s3.heap.objs.size,v]) ht hT hg (by with_unfolding_all rfl)
def jl (xs:List V) (lo hi:Option Int):List V:=(xs.drop (HT.sIx xs.length 0 lo)).take (HT.sIx xs.length xs.length hi - HT.sIx xs.length 0 lo)
theorem lG (xs:List V) (lo hi:Option Int):(jl xs lo hi).length≤xs.length:=by
 unfold jl
 rw [List.length_take,List.length_drop]
 omega
def Nr (K:PySem.W.Frag):V→Option Int→Option Int→Hp→VK→Prop:=fun x lo hi H Q=>∃ a xs,x=.ref a∧SqT K H a xs ∧
 ¬ (HT.sIx xs.length 0 lo=0∧HT.sIx xs.length xs.length hi=xs.length)∧∀ p,H p=none→Q (.ref p) (upd H p (.tup (jl xs lo hi)))
theorem HX:SlR X (Nr X.K):=by
 intro pins s σ H x v vl vu lo hi sl Q I rx hs pl pu h
 obtain ⟨a,xs,rfl,hx,hw,q⟩:=h
 cases rx
 obtain ⟨its,r,ht,hz⟩:=I.tuple hx
 have hlen:its.toArray.size=xs.length:=by rw [List.size_toArray]; exact r.length.symm
 refine ⟨"tuple",_,PyProof.Rows.slot_tuple_getitem.lookup,ht.typeIs,?_⟩
 refine HT.jE ht hs pl pu (by rw [hlen]; exact hw) ?_ (by rw [hlen]; exact hz)
 rw [hlen]
 refine ⟨.ref s.heap.objs.size,_,I.laid (t':=s.toks) (o:=.tup (jl xs lo hi)) (fun b ob q=>Heap.get?_push_of_some _ q) (Nat.le_refl _) ?_,rfl,q _ (I.hok.fresh (Nat.le_refl _))⟩
 exact ⟨Nat.le_trans (lG xs lo hi) hz,_,(r.drop (HT.sIx xs.length 0 lo)).take (HT.sIx xs.length xs.length hi - HT.sIx xs.length 0 lo),IsTup.new _ _⟩
def KJ (K:PySem.W.Frag):R2:=fun x y H Q=>∃ a b xs ys,x=.ref a∧y=.ref b∧SqT K H a xs∧SqT K H b ys∧xs≠[]∧xs.length+ys.length≤sizeLine ∧
 (ys=[]→Q (.ref a) H)∧(ys≠[]→∀ p,H p=none→Q (.ref p) (upd H p (.tup (xs++ys))))
theorem Vals.nil_iff {xs:List V} {us:List Value} (r:Vals xs us):us=[]↔xs=[]:=by
 cases r with
 | nil=>simp
 | cons _ _=>simp
theorem GC:OpR X (binaryOp .Add) (KJ X.K):=by
 intro pins s σ H x y v u Q I rx ry h
 obtain ⟨a,b,xs,ys,rfl,rfl,ha,hb,hx,hz,q1,q2⟩:=h
 cases rx
 cases ry
 obtain ⟨its,r1,p1,_⟩:=I.tuple ha
 obtain ⟨its2,r2,p2,_⟩:=I.tuple hb
 refine HT.Ez p1 p2 (fun z=>hx (r1.nil_iff.mp z)) (fun z=>⟨.ref a,H,I,rfl,q1 (r2.nil_iff.mp z)⟩) (fun z=>?_) (by rw [← r1.length,← r2.length]; exact hz)
 refine ⟨.ref s.heap.objs.size,_,I.laid (t':=s.toks) (o:=.tup (xs++ys)) (fun b ob q=>Heap.get?_push_of_some _ q) (Nat.le_refl _) ?_,rfl,q2 (fun w=>z (r2.nil_iff.mpr w)) _ (I.hok.fresh (Nat.le_refl _))⟩
 exact ⟨by rw [List.length_append]; exact hz,_,r1.append r2,IsTup.new _ _⟩
end
end L2
namespace L2
open PySem PySem.Spec PyProof.Rows
def ixN (n:Nat) (i:Int):Option Nat:=if 0≤i then (if i < n then some i.toNat else none) else if -(n:Int)≤i then some (i+n).toNat else none
def atI {α:Type} (xs:List α) (i:Int):Option α:=(ixN xs.length i).bind fun j=>xs[j]?
theorem zx {n:Nat} {i:Int} {j:Nat} (h:ixN n i=some j):seqIndex? i n=some j∧j < n∧-(n:Int)≤i∧i < n:=by
 unfold ixN at h
 by_cases h0:0≤i
 ·rw [if_pos h0] at h
  by_cases h1:i < n
  ·rw [if_pos h1] at h
   have e:i.toNat=j:=Option.some.inj h
   exact ⟨by rw [seqIndex_of h0 h1,e],by omega,by omega,h1⟩
  ·rw [if_neg h1] at h; cases h
 ·rw [if_neg h0] at h
  by_cases h1:-(n:Int)≤i
  ·rw [if_pos h1] at h
   have e:(i+n).toNat=j:=Option.some.inj h
   exact ⟨by rw [seqIndex_neg (by omega) h1,e],by omega,h1,by omega⟩
  ·rw [if_neg h1] at h; cases h
theorem sG {α:Type} {xs:List α} {i:Int} {v:α} (h:atI xs i=some v):∃ j,seqIndex? i xs.length=some j∧xs[j]?=some v∧j < xs.length∧-(xs.length:Int)≤i∧i < xs.length:=by
 unfold atI at h
 cases e:ixN xs.length i with
 | none=>rw [e] at h; cases h
 | some j =>
  rw [e] at h
  obtain ⟨h1,h2,h3,h4⟩:=zx e
  exact ⟨j,h1,h,h2,h3,h4⟩
theorem bw {α:Type} {xs:List α} {j:Nat} {v:α} (h:xs[j]?=some v):atI xs (j:Int)=some v:=by
 have hj:j < xs.length:=(List.getElem?_eq_some_iff.mp h).1
 have e:ixN xs.length (j:Int)=some j:=by
  unfold ixN
  rw [if_pos (by omega),if_pos (by omega)]; simp
 unfold atI; rw [e]; exact h
theorem Bb {α:Type} (xs:List α) (v:α):atI (xs++[v]) (-1)=some v:=by
 have hl:(xs++[v]).length=xs.length+1:=by simp
 have e:ixN (xs++[v]).length (-1)=some xs.length:=by
  unfold ixN
  rw [hl,if_neg (by decide),if_pos (by omega)]
  congr 1
  omega
 unfold atI
 rw [e]
 show (xs++[v])[xs.length]?=some v
 simp
def Fx (b:Expr):Prop:=∀ o i,subscripted b false o i=operate [o,i] (getItem o i)
def IxR (X:Cx) (r:R2):Prop :=
 ∀ (value slice:Expr) (pins:List (Addr × Obj)) (s:Shared) (σ:St) (H:Hp) (x y:V) (v u:Value) (Q:VK),Inv X pins σ H s→RelV x v→RelV y u→r x y H Q →
  subscripted slice false v u=operate [v,u] (getItem v u)→wpAny (model X.prog X.w) X.A (subscriptTail value slice v u) (EP X pins σ Q) X.xe s
def MtR (X:Cx) (id:String) (r:V→List V→Hp→VK→Prop):Prop :=
 ∀ (pins:List (Addr × Obj)) (s:Shared) (σ:St) (H:Hp) (x:V) (xs:List V) (v:Value) (us:List Value) (Q:VK),Inv X pins σ H s→RelV x v→Vals xs us→r x xs H Q →
  wpAny (model X.prog X.w) X.A (call (.builtin id) (v :: us)) (EP X pins σ Q) X.xe s
section
variable {X:Cx} {a b:Expr} {ta tb:TE} {pos:Pos}
theorem bA {r:R2} (hr:IxR X r) (ha:PE X a ta) (hb:PE X b tb) (hs:Fx b):PE X (.Subscript a b pos) (tOp r ta tb):=by
 intro pins s σ H Q I h
 exact Subscript_ (Lj ha hb I h fun v u s2 x y H2 I2 rx ry q=>hr a b pins s2 σ H2 x y v u Q I2 rx ry q (hs _ _))
def HS (K:PySem.W.Frag):R2:=fun x y H Q=>∃ p xs i v,x=.ref p∧y=.int i∧SqL K H p xs∧atI xs i=some v∧Q v H
def Mp (K:PySem.W.Frag):R2:=fun x y H Q=>∃ p xs i v,x=.ref p∧y=.int i∧SqT K H p xs∧atI xs i=some v∧Q v H
def M7:R2:=fun x y H Q=>∃ z i c,x=.str z∧y=.int i∧z.length≤sizeLine∧atI z.cps.toList i=some c∧Q (.str ⟨#[c]⟩) H
theorem bR:IxR X (HS X.K):=by
 intro value slice pins s σ H x y v u Q I rx ry h hs
 obtain ⟨p,xs,i,z,rfl,rfl,hq,he,q⟩:=h
 cases rx
 obtain ⟨t,rfl⟩:=ry
 obtain ⟨its,r,pl,hz⟩:=I.list hq
 obtain ⟨j,h1,h2,h3,h4,h5⟩:=sG he
 obtain ⟨w,ew,rw'⟩:=r.get h2
 have hl:=r.length
 have hn:=mF
 have fin:EP X pins σ Q w s:=⟨z,H,I,rw',q⟩
 by_cases h0:0≤i
 ·have hj:i.toNat=j:=by
   rw [seqIndex_of h0 h5] at h1
   exact Option.some.inj h1
  exact item_listR pl.isList h0 (by omega) (by rw [hj]; simpa using ew) fin hs
 ·have hj:(i+(its.toArray.size:Int)).toNat=j:=by
   rw [seqIndex_neg (by omega) h4] at h1
   rw [List.size_toArray,← hl]
   exact Option.some.inj h1
  exact subscriptTail_builtinR (x:=w) pl.isList.typeIs slot_list_getitem.lookup
   (wpAny_getItem_list_neg (Q:=fun r s'=>r=w∧EP X pins σ Q r s') pl.isList (by omega) (by rw [List.size_toArray] <;> omega) (by omega) (by rw [hj]; simpa using ew) ⟨rfl,fin⟩) hs
theorem bH:IxR X (Mp X.K):=by
 intro value slice pins s σ H x y v u Q I rx ry h hs
 obtain ⟨p,xs,i,z,rfl,rfl,hq,he,q⟩:=h
 cases rx
 obtain ⟨t,rfl⟩:=ry
 obtain ⟨its,r,pl,hz⟩:=I.tuple hq
 obtain ⟨j,h1,h2,h3,h4,h5⟩:=sG he
 obtain ⟨w,ew,rw'⟩:=r.get h2
 have hl:=r.length
 have hn:=mF
 have fin:EP X pins σ Q w s:=⟨z,H,I,rw',q⟩
 exact subscriptTail_builtinR (x:=w) pl.typeIs slot_tuple_getitem.lookup
  (getItem_tuple (j:=j) (Q:=fun r s'=>r=w∧EP X pins σ Q r s') pl (by omega) (by omega) (by rw [List.size_toArray,← hl]; exact h1) (by simpa using ew) ⟨rfl,fin⟩) hs
theorem Jz:IxR X M7:=by
 intro value slice pins s σ H x y v u Q I rx ry h hs
 obtain ⟨z,i,c,rfl,rfl,hz,he,q⟩:=h
 obtain ⟨t,rfl⟩:=rx
 obtain ⟨t',rfl⟩:=ry
 obtain ⟨j,h1,h2,h3,h4,h5⟩:=sG he
 have hl:z.cps.toList.length=z.length:=by simp [Str.length]
 rw [hl] at h1 h4 h5
 have hn:=mF
 exact tail_any (typeIs_str s z t) slot_str_getitem.lookup (getItem_str (c:=c) (by
  have e1:decide (i < -(2 ^ 63:Int))=false:=decide_eq_false (by omega)
  have e2:decide (i ≥ 2 ^ 63)=false:=decide_eq_false (by omega)
  rw [e1,e2,Bool.or_false]) (by rw [h1]; simpa using h2) ⟨.str ⟨#[c]⟩,H,I.tok _,⟨_,rfl⟩,q⟩) hs
theorem u5 (its:List Value) (n j:Nat) (u:Value):Obj.mapSeq (·.setIfInBounds j u) { cls:=.type "list",data:=.seq its.toArray n }={ cls:=.type "list",data:=.seq (its.set j u).toArray n }:=by
 simp [Obj.mapSeq]
theorem Inv.lst {pins:List (Addr × Obj)} {σ:St} {H:Hp} {s:Shared} {p:Addr} {xs:List V} (I:Inv X pins σ H s) (h:H p=some (.lst xs)) :
  ∃ (its:List Value) (n:Nat),Vals xs its∧s.heap.get? p=some { cls:=.type "list",data:=.seq its.toArray n }∧xs.length≤sizeLine:=by
 obtain ⟨z,its,n,r,e⟩:=I.hok p _ h
 exact ⟨its,n,r,e,z⟩
theorem Inv.lstUpd {pins:List (Addr × Obj)} {σ:St} {H:Hp} {s:Shared} {p:Addr} {xs ys:List V} {its its':List Value} {n n':Nat} {f:Obj→Obj} (I:Inv X pins σ H s) (h:H p=some (.lst xs))
  (ho:s.heap.get? p=some { cls:=.type "list",data:=.seq its.toArray n }) (hf:f { cls:=.type "list",data:=.seq its.toArray n }={ cls:=.type "list",data:=.seq its'.toArray n' }) (r:Vals ys its') (hz:ys.length≤sizeLine) (t:Nat) :
  Inv X pins σ (upd H p (.lst ys)) { s with heap:=s.heap.update p f,toks:=t }:=by
 have e:(s.heap.update p f).get? p=some { cls:=.type "list",data:=.seq its'.toArray n' }:=by
  rw [Heap.get?_update_self f ho (by rw [hf] <;> rfl),hf]
 refine I.write (x:=p) (e:=p) (by rw [h]; trivial) (.inl rfl) (fun b u hb q=>(Heap.get?_update_other _ _ (Ne.symm hb)).trans q) ⟨_,e⟩ ?_
 exact ⟨hz,its',n',r,e⟩
def Le:V→V→V→Hp→(Hp→Prop)→Prop:=fun o i v H Q=>∃ p xs k j,o=.ref p∧i=.int k∧H p=some (.lst xs)∧ixN xs.length k=some j∧Q (upd H p (.lst (xs.set j v)))
theorem set_list:Mh X Le:=by
 intro pins s σ H o i v ov iv u Q I ro ri rv h
 obtain ⟨p,xs,k,j,rfl,rfl,hp,hj,q⟩:=h
 cases ro
 obtain ⟨t,rfl⟩:=ri
 obtain ⟨its,n,r,ho,hz⟩:=I.lst hp
 obtain ⟨h1,h2,h3,h4⟩:=zx hj
 have hl:=r.length
 have hn:=mF
 have I':Inv X pins σ (upd H p (.lst (xs.set j v))) { s with heap:=s.heap.update p (Obj.mapSeq (·.setIfInBounds j u)) } :=
  I.lstUpd hp ho (u5 its n j u) (r.set rv j) (by rw [List.length_set]; exact hz) s.toks
 by_cases h0:0≤k
 ·have hk:k.toNat=j:=by
   rw [seqIndex_of h0 h4] at h1
   exact Option.some.inj h1
  exact PySem.W.ki_setAt ho h0 (by omega) (by rw [List.size_toArray,← hl]; exact h4) (by rw [hk]; exact ⟨_,I',q⟩)
 ·have hk:(k+(its.toArray.size:Int)).toNat=j:=by
   rw [seqIndex_neg (by omega) h3] at h1
   rw [List.size_toArray,← hl]
   exact Option.some.inj h1
  exact PySem.W.ki_setBack ho (by omega) (by rw [List.size_toArray,← hl]; exact h3) (by omega) (by rw [hk]; exact ⟨_,I',q⟩)
theorem qb (lo hi:Option Int) (n:Nat):(sliceBounds lo hi none n).1=((HT.sIx n 0 lo:Nat):Int)∧(sliceBounds lo hi none n).2.1=((HT.sIx n n hi:Nat):Int)∧(sliceBounds lo hi none n).2.2=1:=by
 refine ⟨?_,?_,rfl⟩
 ·cases lo with
  | none=>simp [sliceBounds,HT.sIx]
  | some i =>
   simp only [sliceBounds,HT.sIx,Option.getD_none,show (1:Int) > 0 by decide,if_true]
   by_cases h:i < 0
   ·simp only [h,if_true] <;> omega
   ·simp only [h,if_false] <;> omega
 ·cases hi with
  | none=>simp [sliceBounds,HT.sIx]
  | some i =>
   simp only [sliceBounds,HT.sIx,Option.getD_none,show (1:Int) > 0 by decide,if_true]
   by_cases h:i < 0
   ·simp only [h,if_true] <;> omega
   ·simp only [h,if_false] <;> omega
theorem oH (its:List Value) (lo hi:Option Int):slicePick its.toArray lo hi none=((its.drop (HT.sIx its.length 0 lo)).take (HT.sIx its.length its.length hi - HT.sIx its.length 0 lo)).toArray:=by
 obtain ⟨h1,h2,h3⟩:=qb lo hi its.toArray.size
 unfold slicePick
 rw [h1,h2,h3]
 simp only [sliceRange_one,pick_run,List.size_toArray] <;> rfl
def Nh (K:PySem.W.Frag):V→Option Int→Option Int→Hp→VK→Prop:=fun x lo hi H Q=>∃ a xs,x=.ref a∧SqL K H a xs∧∀ p,H p=none→Q (.ref p) (upd H p (.lst (jl xs lo hi)))
theorem nM:SlR X (Nh X.K):=by
 intro pins s σ H x v vl vu lo hi sl Q I rx hs pl pu h
 obtain ⟨a,xs,rfl,hx,q⟩:=h
 cases rx
 obtain ⟨its,r,ht,hz⟩:=I.list hx
 have hlen:=r.length
 refine ⟨"list",_,slot_list_getitem.lookup,ht.isList.typeIs,?_⟩
 refine wpAny_getItem_list_slice ht.isList hs pl pu .none (by simp) ?_ (by rw [List.size_toArray] <;> omega)
 rw [oH,← hlen]
 refine ⟨.ref s.heap.objs.size,_,I.laid (t':=s.toks) (o:=.lst (jl xs lo hi)) (fun b ob q=>Heap.get?_push_of_some _ q) (Nat.le_refl _) ?_,rfl,q _ (I.hok.fresh (Nat.le_refl _))⟩
 exact ⟨Nat.le_trans (lG xs lo hi) hz,_,0,(r.drop (HT.sIx xs.length 0 lo)).take (HT.sIx xs.length xs.length hi - HT.sIx xs.length 0 lo),Heap.get?_push_size _ rfl⟩
def nZ:V→Bool
 | .non=>true
 | .bl _=>true
 | .int _=>true
 | .str _=>true
 | _=>false
def eqV:V→V→Bool
 | .non,.non=>true
 | .bl a,.bl b=>a == b
 | .bl a,.int b=>(if a then 1 else 0) == b
 | .int a,.bl b=>a == (if b then 1 else 0)
 | .int a,.int b=>a == b
 | .str a,.str b=>a == b
 | _,_=>false
theorem Iz {A:Around} {s:Shared} {y x:V} {u v:Value} (ry:RelV y u) (rx:RelV x v) (fy:nZ y=true) (fx:nZ x=true):SeqAt.EqAt A s u v (eqV y x):=by
 cases y with
 | non =>
  cases ry
  cases x with
  | non=>cases rx; exact SeqAt.EqAt.same _
  | bl b=>cases rx; exact SeqAt.EqAt.none_bool b
  | int b=>obtain ⟨t,rfl⟩:=rx; exact SeqAt.EqAt.none_int b t
  | str b=>obtain ⟨t,rfl⟩:=rx; exact SeqAt.EqAt.none_str b t
  | _=>exact absurd (show false=true from fx) Bool.false_ne_true
 | bl a =>
  cases ry
  cases x with
  | non=>cases rx; exact SeqAt.EqAt.bool_none a
  | bl b=>cases rx; exact SeqAt.EqAt.bool_bool a b
  | int b=>obtain ⟨t,rfl⟩:=rx; exact SeqAt.EqAt.bool_int a b t
  | str b=>obtain ⟨t,rfl⟩:=rx; exact SeqAt.EqAt.bool_str a b t
  | _=>exact absurd (show false=true from fx) Bool.false_ne_true
 | int a =>
  obtain ⟨t',rfl⟩:=ry
  cases x with
  | non=>cases rx; exact SeqAt.EqAt.int_none a t'
  | bl b=>cases rx; exact SeqAt.EqAt.int_bool a t' b
  | int b=>obtain ⟨t,rfl⟩:=rx; exact SeqAt.EqAt.int_int a t' b t
  | str b=>obtain ⟨t,rfl⟩:=rx; exact SeqAt.EqAt.int_str a t' b t
  | _=>exact absurd (show false=true from fx) Bool.false_ne_true
 | str a =>
  obtain ⟨t',rfl⟩:=ry
  cases x with
  | non=>cases rx; exact SeqAt.EqAt.str_none a t'
  | bl b=>cases rx; exact SeqAt.EqAt.str_bool a t' b
  | int b=>obtain ⟨t,rfl⟩:=rx; exact SeqAt.EqAt.str_int a t' b t
  | str b=>obtain ⟨t,rfl⟩:=rx; exact SeqAt.EqAt.str_str a t' b t
  | _=>exact absurd (show false=true from fx) Bool.false_ne_true
 | _=>exact absurd (show false=true from fy) Bool.false_ne_true
def eqU (x:V) (u:Value):Bool:=match u with
 | .none=>eqV .non x
 | .bool b=>eqV (.bl b) x
 | .int i _=>eqV (.int i) x
 | .str z _=>eqV (.str z) x
 | _=>false
theorem Dq {x y:V} {u:Value} (r:RelV y u) (f:nZ y=true):eqU x u=eqV y x:=by
 cases y with
 | non=>cases r; rfl
 | bl b=>cases r; rfl
 | int i=>obtain ⟨t,rfl⟩:=r; rfl
 | str z=>obtain ⟨t,rfl⟩:=r; rfl
 | _=>exact absurd (show false=true from f) Bool.false_ne_true
theorem rC {x:V}:∀ {xs:List V} {us:List Value},Vals xs us→xs.all nZ=true→us.any (eqU x)=xs.any fun y=>eqV y x
 | _,_,.nil,_=>rfl
 | y :: xs,u :: us,.cons r t,f=>by
  rw [List.all_cons,Bool.and_eq_true] at f
  rw [List.any_cons,List.any_cons,Dq r f.1,rC t f.2]
theorem nG {A:Around} {s:Shared} {x:V} {v:Value} (rx:RelV x v) (fx:nZ x=true):∀ {xs:List V} {us:List Value},Vals xs us→xs.all nZ=true→∀ u∈us,SeqAt.EqAt A s u v (eqU x u)
 | _,_,.nil,_=>fun u hu=>by cases hu
 | y :: xs,u :: us,.cons r t,f=>fun u' hu=>by
  rw [List.all_cons,Bool.and_eq_true] at f
  rcases List.mem_cons.mp hu with rfl | hu
  ·rw [Dq r f.1]; exact Iz r rx f.1 fx
  ·exact nG rx fx t f.2 u' hu
def inV (x:V) (xs:List V):Bool:=xs.any fun y=>eqV y x
def rIn (K:PySem.W.Frag) (neg:Bool):R2:=fun x y H Q=>∃ p xs,y=.ref p∧(SqL K H p xs∨SqT K H p xs)∧nZ x=true∧xs.all nZ=true∧Q (.bl (if neg then !inV x xs else inV x xs)) H
theorem pC:OpR X (compareOp .In) (rIn X.K false):=by
 intro pins s σ H x y v u Q I rx ry h
 obtain ⟨p,xs,rfl,hq,fx,fs,q⟩:=h
 cases ry
 rcases hq with hq | hq
 ·obtain ⟨its,r,pl,hz⟩:=I.list hq
  refine SeqAt.in_listAt (eqU x) pl.isList (fun w hw=>nG rx fx r fs w (by simpa using hw)) ⟨.bl _,H,I,rfl,?_⟩
  rw [show its.toArray.any (eqU x)=its.any (eqU x) by simp,rC r fs]
  exact q
 ·obtain ⟨its,r,pl,hz⟩:=I.tuple hq
  refine SeqAt.in_tupleAt (eqU x) pl (fun w hw=>nG rx fx r fs w (by simpa using hw)) ⟨.bl _,H,I,rfl,?_⟩
  rw [show its.toArray.any (eqU x)=its.any (eqU x) by simp,rC r fs]
  exact q
theorem oM:OpR X (compareOp .NotIn) (fun x y H Q=>∃ i j,x=.str i∧y=.str j∧Q (.bl (!(!(Builtin.Str.occurrences j i 0 j.length 1).isEmpty))) H):=by
 intro pins s σ H x y v u Q I rx ry h
 obtain ⟨i,j,rfl,rfl,q⟩:=h
 obtain ⟨t,rfl⟩:=rx
 obtain ⟨t',rfl⟩:=ry
 exact notIn_str ⟨.bl _,H,I,rfl,q⟩
theorem aQ:fK X (.builtin "len") (fun xs H Q=>∃ p ys,xs=[.ref p]∧(SqL X.K H p ys∨SqT X.K H p ys)∧Q (.int ys.length) H):=by
 intro pins s σ H xs us Q I r h
 obtain ⟨p,ys,rfl,hq,q⟩:=h
 obtain ⟨u,rfl,rx⟩:=vals1 r
 cases rx
 have hn:=mF
 rcases hq with hq | hq
 ·obtain ⟨its,r',pl,hz⟩:=I.list hq
  have hlen:=r'.length
  exact Calls.call_len_list pl.isList (by simp only [List.size_toArray] <;> omega) ⟨.int ys.length,H,I.tok _,⟨s.toks+1,by rw [List.size_toArray,hlen]⟩,q⟩
 ·obtain ⟨its,r',pl,hz⟩:=I.tuple hq
  have hlen:=r'.length
  exact len_tuple pl (by simp only [List.size_toArray] <;> omega) ⟨.int ys.length,H,I.tok _,⟨s.toks+1,by rw [List.size_toArray,hlen]⟩,q⟩
theorem qF:fK X (.builtin "len") (fun xs H Q=>∃ z,xs=[.str z]∧z.length≤sizeLine∧Q (.int z.length) H):=by
 intro pins s σ H xs us Q I r h
 obtain ⟨z,rfl,hz,q⟩:=h
 obtain ⟨u,rfl,t,rfl⟩:=vals1 r
 have hn:=mF
 exact len_str (by omega) ⟨.int z.length,H,I.tok _,⟨_,rfl⟩,q⟩
theorem jN:fK X (.type "list") (fun xs H Q=>∃ p ys,xs=[.ref p]∧(SqL X.K H p ys∨SqT X.K H p ys)∧∀ l,H l=none→Q (.ref l) (upd H l (.lst ys))):=by
 intro pins s σ H xs us Q I r h
 obtain ⟨p,ys,rfl,hq,q⟩:=h
 obtain ⟨u,rfl,rx⟩:=vals1 r
 cases rx
 have fin:∀ (its:List Value),Vals ys its→ys.length≤sizeLine→∀ (h':Heap) (c':Nat),(∀ b o',s.heap.get? b=some o'→h'.get? b=some o') →
   h'.get? s.heap.objs.size=some { cls:=.type "list",dict:=none,data:=.seq its.toArray c',slots:=#[] }→EP X pins σ Q (.ref s.heap.objs.size) { s with heap:=h' }:=fun its r' hz h' c' kp e =>
  ⟨.ref s.heap.objs.size,_,I.laid (t':=s.toks) kp (Nat.le_refl _) (show cL X.prog X.w _ h' _ (.lst ys) from ⟨hz,its,c',r',e⟩),rfl,q _ (I.hok.fresh (Nat.le_refl _))⟩
 rcases hq with hq | hq
 ·obtain ⟨its,r',pl,hz⟩:=I.list hq
  have hlen:=r'.length
  obtain ⟨o,ho,hc,n,hd⟩:=pl.isList
  exact call_list_seq p (.inl rfl) ho hc hd (fun h' c' kp e=>fin its r' hz h' c' kp e) (by simp only [List.size_toArray] <;> omega)
 ·obtain ⟨its,r',pl,hz⟩:=I.tuple hq
  have hlen:=r'.length
  obtain ⟨o,ho,hc,n,hd⟩:=pl
  exact call_list_seq p (.inr rfl) ho hc hd (fun h' c' kp e=>fin its r' hz h' c' kp e) (by simp only [List.size_toArray] <;> omega)
theorem bM:fK X (.type "tuple") (fun xs H Q=>∃ p ys,xs=[.ref p]∧((SqL X.K H p ys∧∀ l,H l=none→Q (.ref l) (upd H l (.tup ys)))∨(SqT X.K H p ys∧Q (.ref p) H))):=by
 intro pins s σ H xs us Q I r h
 obtain ⟨p,ys,rfl,h⟩:=h
 obtain ⟨u,rfl,rx⟩:=vals1 r
 cases rx
 rcases h with ⟨hq,q⟩ | ⟨hq,q⟩
 ·obtain ⟨its,r',pl,hz⟩:=I.list hq
  have hlen:=r'.length
  refine call_tuple_list pl.isList (fun h' kp=>?_) (by simp only [List.size_toArray] <;> omega)
  have I1:Inv X pins σ H { s with heap:=h' }:=I.kept (t':=s.toks) kp
  have I2:Inv X pins σ (upd H h'.objs.size (.tup ys)) { s with heap:=h'.push { cls:=.type "tuple",data:=.seq its.toArray } } :=
   I1.laid (t':=s.toks) (fun b o e=>Heap.get?_push_of_some _ e) (Nat.le_refl _) (show cL X.prog X.w _ _ _ (.tup ys) from ⟨hz,its,r',IsTup.new _ _⟩)
  exact ⟨.ref h'.objs.size,_,I2,rfl,q _ (I1.hok.fresh (Nat.le_refl _))⟩
 ·obtain ⟨its,r',pl,hz⟩:=I.tuple hq
  exact call_tuple_same pl ⟨.ref p,H,I,rfl,q⟩
def tyV (K:PySem.W.Frag) (T:String) (x:V) (H:Hp):Prop:=match x with
 | .str _=>T = "str"
 | .int _=>T = "int"
 | .ref p=>(T = "list"∧∃ xs,SqL K H p xs)∨(T = "tuple"∧∃ o,K.lookup p=some o∧o.cls=.type "tuple"∧o.dict=none) ∨
   (T = "dict"∧((∃ kvs,H p=some (.dK kvs))∨∃ kvs,H p=some (.dT kvs)))∨(T = "set"∧∃ S n,H p=some (.set S n))
 | _=>False
theorem Dj {pins:List (Addr × Obj)} {σ:St} {H:Hp} {s:Shared} {T:String} {x:V} {v:Value} (I:Inv X pins σ H s) (r:RelV x v) (ty:tyV X.K T x H) :
  s.TypeIs v T∧∀ a,v=.ref a→∃ ob,s.heap.get? a=some ob∧ob.dict=none:=by
 cases x with
 | str z =>
  obtain ⟨t,rfl⟩:=r
  cases (show T = "str" from ty)
  exact ⟨typeIs_str s z t,fun _ e=>nomatch e⟩
 | int i =>
  obtain ⟨t,rfl⟩:=r
  cases (show T = "int" from ty)
  exact ⟨typeIs_int s i t,fun _ e=>nomatch e⟩
 | ref p =>
  cases r
  rcases ty with ⟨rfl,xs,hq⟩ | ⟨rfl,o,hk,hc,hd⟩ | ⟨rfl,hk⟩ | ⟨rfl,S,n,hk⟩
  ·obtain ⟨its,_,pl,_⟩:=I.list hq
   refine ⟨pl.isList.typeIs,fun a e=>?_⟩
   cases e
   obtain ⟨o,n,e,c,hd,_⟩:=pl
   exact ⟨o,e,hd⟩
  ·refine ⟨⟨o,I.kIn p o hk,hc⟩,fun a e=>?_⟩
   cases e
   exact ⟨o,I.kIn _ o hk,hd⟩
  ·have z:∃ o,s.heap.get? p=some o∧o.ExactDict:=by
    rcases hk with ⟨kvs,hk⟩ | ⟨kvs,hk⟩
    ·obtain ⟨_,_,_,_,o,_,_,e,ex,_⟩:=I.hok p _ hk
     exact ⟨o,e,ex⟩
    ·obtain ⟨_,_,_,_,o,_,_,e,ex,_⟩:=I.hok p _ hk
     exact ⟨o,e,ex⟩
   obtain ⟨o,e,ex⟩:=z
   refine ⟨⟨o,e,ex.1⟩,fun a e2=>?_⟩
   cases e2
   exact ⟨o,e,ex.2.1⟩
  ·obtain ⟨o,_,_,_,e,ex,_⟩:=I.hok p _ hk
   refine ⟨⟨o,e,ex.1⟩,fun a e2=>?_⟩
   cases e2
   exact ⟨o,e,ex.2.1⟩
 | _=>exact False.elim ty
def Mr (K:PySem.W.Frag) (T:String) (r:V→List V→Hp→VK→Prop) (to:TE):TE:=fun σ H Q=>to σ H fun x H1=>tyV K T x H1∧r x [] H1 Q
def tBM (K:PySem.W.Frag) (T:String) (r:V→List V→Hp→VK→Prop) (to:TE) (t:TA):TE:=fun σ H Q=>to σ H fun x H1=>tyV K T x H1∧t σ H1 fun xs H2=>r x xs H2 Q
variable {o e:Expr} {es:List Expr} {to:TE} {t:TA} {name:Str} {apos cpos:Pos} {T id:String} {r:V→List V→Hp→VK→Prop}
theorem qC (pa:PlainAttrs T) (slot:Slot T name id) (hty:typeOf (.builtin id)=pure (.type "method_descriptor")) (hm:MtR X id r) (ho:PE X o to)
  (hbase:attributeBase o name X.env (eval o X.env)=eval o X.env:=by rfl) (hline:(apos.endLine == cpos.line)=true:=by rfl):PE X (.Call (.Attribute o name apos) [] [] cpos) (Mr X.K T r to):=by
 intro pins s σ H Q I h
 refine wpAny_Call_method0_late hbase hline (thn (ho pins s σ H _ I h) fun v s1 ⟨x,H1,I1,r1,ty,q1⟩=>?_)
 obtain ⟨h1,h2⟩:=Dj I1 r1 ty
 exact ⟨T,id,pa,slot,hty,h1,h2,Calls.callWith_builtin rfl (PySem.evalArgs_none (hm pins s1 σ H1 x [] v [] Q I1 r1 .nil q1))⟩
theorem iw (pa:PlainAttrs T) (slot:Slot T name id) (hty:typeOf (.builtin id)=pure (.type "method_descriptor")) (hm:MtR X id r) (ho:PE X o to) (ha:PA X (e :: es) t)
  (hbase:attributeBase o name X.env (eval o X.env)=eval o X.env:=by rfl)
  (hfew:((backTo cpos (starEach (e :: es) X.env)).all (fun x=>!x.1) && (backToKw cpos (keywordEach [] X.env)).all (fun x=>x.1.isSome)
   && decide ((e :: es).length+([]:List Keyword).length+(if ([]:List Keyword).isEmpty then 0 else 1) < 30))=true:=by rfl)
  (hline:(apos.endLine == cpos.line)=true:=by rfl) (hs:starEach (e :: es) X.env=(false,eval e X.env) :: starEach es X.env:=by rfl) (hplain:(backTo cpos (starEach es X.env)).any (·.1)=false:=by rfl) :
  PE X (.Call (.Attribute o name apos) (e :: es) [] cpos) (tBM X.K T r to t):=by
 intro pins s σ H Q I h
 refine wpAny_Call_method_late hbase hfew hline rfl (thn (ho pins s σ H _ I h) fun v s1 ⟨x,H1,I1,r1,ty,q1⟩=>?_)
 obtain ⟨h1,h2⟩:=Dj I1 r1 ty
 refine ⟨T,id,pa,slot,hty,h1,h2,?_⟩
 have hA:=ha cpos pins s1 σ H1 _ I1 q1
 rw [hs] at hA ⊢
 refine Calls.callWith_builtin (by show (false || (backTo cpos (starEach es X.env)).any (·.1))=false; rw [hplain] <;> rfl) (Calls.evalArgs_plain ?_)
 exact thn hA fun us s2 ⟨vs,H2,I2,r2,q2⟩=>hm pins s2 σ H2 x vs v us Q I2 r1 r2 q2
end
end L2
namespace L2
open PySem PySem.Spec PyProof.Rows
def MtM (X:Cx) (id:String) (r:V→List V→Hp→VK→Prop):Prop :=
 ∀ (pins:List (Addr × Obj)) (s:Shared) (σ:St) (H:Hp) (x:V) (xs:List V) (v:Value) (us:List Value) (Q:VK),Inv X pins σ H s→RelV x v→Vals xs us→r x xs H Q →
  wpAny (model X.prog X.w) X.A (call (.builtin id) (v :: us)) (EP X pins σ Q) X.xe s
theorem Vals.one:∀ {x:V} {us:List Value},Vals [x] us→∃ u,us=[u]∧RelV x u
 | _,_,.cons r .nil=>⟨_,rfl,r⟩
theorem Vals.two:∀ {x y:V} {us:List Value},Vals [x,y] us→∃ u v,us=[u,v]∧RelV x u∧RelV y v
 | _,_,_,.cons r (.cons q .nil)=>⟨_,_,rfl,r,q⟩
theorem Vals.zero:∀ {us:List Value},Vals [] us→us=[]
 | _,.nil=>rfl
theorem Vals.eraseIdx:∀ {xs:List V} {us:List Value} (i:Nat),Vals xs us→Vals (xs.eraseIdx i) (us.eraseIdx i)
 | _,_,_,.nil=>.nil
 | _,_,0,.cons _ t=>t
 | _,_,i+1,.cons r t=>.cons r (Vals.eraseIdx i t)
theorem Vals.reverse {xs:List V} {us:List Value} (h:Vals xs us):Vals xs.reverse us.reverse:=by
 induction h with
 | nil=>exact .nil
 | cons r t ih=>rw [List.reverse_cons,List.reverse_cons]; exact Vals.append ih (.cons r .nil)
theorem Vals.rep {xs:List V} {us:List Value} (h:Vals xs us):∀ k:Nat,Vals (List.replicate k xs).flatten (List.replicate k us).flatten
 | 0=>.nil
 | k+1=>by
  rw [List.replicate_succ,List.replicate_succ,List.flatten_cons,List.flatten_cons]
  exact Vals.append h (Vals.rep h k)
theorem pX {α:Type}:∀ (l:List α) (i:Nat),(l.eraseIdx i).length≤l.length
 | [],_=>Nat.le_refl _
 | _ :: _,0=>Nat.le_succ _
 | _ :: r,i+1=>Nat.succ_le_succ (pX r i)
theorem foldl_rep (its:List Value):∀ (k:Nat) (acc:List Value),
  List.foldl (fun x1 x2=>x1++x2) acc.toArray (List.replicate k its.toArray)=(acc++(List.replicate k its).flatten).toArray
 | 0,acc=>by simp
 | k+1,acc=>by
  have e:acc.toArray++its.toArray=(acc++its).toArray:=by simp
  have e2:(acc++its)++(List.replicate k its).flatten=acc++(List.replicate (k+1) its).flatten:=by
   rw [List.replicate_succ,List.flatten_cons,List.append_assoc]
  rw [← e2,← foldl_rep its k (acc++its),← e,List.replicate_succ,List.foldl_cons]
section
variable {X:Cx} {pins:List (Addr × Obj)} {σ:St} {H:Hp} {s:Shared} {l b:Addr} {xs ys zs:List V}
theorem Inv.lset {its its':List Value} {n:Nat} {f:Array Value→Array Value} {t':Nat} (I:Inv X pins σ H s) (hH:H l=some (.lst xs))
  (e:s.heap.get? l=some { cls:=.type "list",data:=.seq its.toArray n }) (hf:f its.toArray=its'.toArray) (hv:Vals ys its') (hz:ys.length≤sizeLine) :
  Inv X pins σ (upd H l (.lst ys)) { s with heap:=s.heap.update l (Obj.mapSeq f),toks:=t' }:=by
 have q:=PySem.IsL.update e f
 rw [hf] at q
 refine I.write (x:=l) (e:=l) (by rw [hH]; exact trivial) (.inl rfl) (fun b' u hb hu=>(Heap.get?_update_other s.heap (Obj.mapSeq f) (Ne.symm hb)).trans hu) ⟨_,q⟩ ?_
 exact ⟨hz,its',_,hv,q⟩
theorem Inv.lnew {its:List Value} {t':Nat} (I:Inv X pins σ H s) (hv:Vals ys its) (hz:ys.length≤sizeLine) :
  Inv X pins σ (upd H s.heap.objs.size (.lst ys)) { s with heap:=s.heap.push { cls:=.type "list",data:=.seq its.toArray },toks:=t' } :=
 I.laid (fun _ _ q=>Heap.get?_push_of_some _ q) (Nat.le_refl _) ⟨hz,its,0,hv,Heap.get?_push_size _ rfl⟩
theorem Inv.fresh (I:Inv X pins σ H s):H s.heap.objs.size=none:=I.hok.fresh (Nat.le_refl _)
theorem Inv.lstM (I:Inv X pins σ H s) (hH:H l=some (.lst xs)):xs.length≤sizeLine∧∃ (its:List Value) (n:Nat),Vals xs its∧xs.length=its.length∧s.heap.get? l=some { cls:=.type "list",data:=.seq its.toArray n }:=by
 obtain ⟨z,its,n,r,e⟩:=I.hok l _ hH
 exact ⟨z,its,n,r,r.length,e⟩
theorem tV {n:Nat} (h:n≤sizeLine):Builtin.List.listTooLong n=false:=by
 unfold Builtin.List.listTooLong
 exact decide_eq_false (by omega)
end
section
variable {X:Cx}
def Fq:V→List V→Hp→VK→Prop:=fun x vs H Q=>∃ l xs y,x=.ref l∧vs=[y]∧H l=some (.lst xs)∧xs.length < sizeLine∧Q .non (upd H l (.lst (xs++[y])))
theorem cH:MtM X "list.append" Fq:=by
 intro pins s σ H x vs v us Q I rx rv h
 obtain ⟨l,xs,y,rfl,rfl,hH,hz,q⟩:=h
 cases rx
 obtain ⟨u,rfl,ru⟩:=rv.one
 obtain ⟨z,its,n,r,hl,e⟩:=I.lstM hH
 refine call_meets F.slot_list_append ⟨_,e,rfl⟩ F.entry_list_append (F.args_list_append_2 _ _) (PySem.list_append l its.toArray n u (by rw [List.size_toArray]; omega)) ⟨e,?_⟩
 refine ⟨.non,_,I.lset (its':=its++[u]) hH e (by simp) (r.append (.cons ru .nil)) ?_,rfl,q⟩
 rw [List.length_append,List.length_singleton]
 omega
def EY:V→List V→Hp→VK→Prop:=fun x vs H Q=>∃ l b xs zs,x=.ref l∧vs=[.ref b]∧H l=some (.lst xs)∧H b=some (.lst zs)∧xs.length+zs.length≤sizeLine∧Q .non (upd H l (.lst (xs++zs)))
theorem zu:MtM X "list.extend" EY:=by
 intro pins s σ H x vs v us Q I rx rv h
 obtain ⟨l,b,xs,zs,rfl,rfl,hH,hB,hz,q⟩:=h
 cases rx
 obtain ⟨u,rfl,ru⟩:=rv.one
 cases ru
 obtain ⟨z,its,n,r,hl,e⟩:=I.lstM hH
 obtain ⟨z2,its2,n2,r2,hl2,e2⟩:=I.lstM hB
 have hsz:its.toArray.size+its2.toArray.size≤sizeLine:=by rw [List.size_toArray,List.size_toArray]; omega
 have hlong:¬ (!its.toArray.isEmpty && Builtin.List.listTooLong (its.toArray.size+its2.toArray.size))=true:=by
  rw [tV hsz,Bool.and_false]
  exact Bool.false_ne_true
 refine call_meets F.slot_list_extend ⟨_,e,rfl⟩ F.entry_list_extend (F.args_list_extend_2 _ _)
  (AutoSeq1.list_extend_list_list_0 l its.toArray n b its2.toArray n2 hlong (by rw [List.size_toArray]; omega) (by omega)) ⟨e,e2,?_⟩
 refine ⟨.non,_,I.lset (its':=its++its2) hH e (by simp) (r.append r2) ?_,rfl,q⟩
 rw [List.length_append]
 omega
def Ig:V→List V→Hp→VK→Prop:=fun x vs H Q=>∃ l xs i k y,x=.ref l∧vs=[.int i]∧H l=some (.lst xs)∧-(2 ^ 63)≤i∧i < 2 ^ 63∧seqIndex? i xs.length=some k∧xs[k]?=some y∧Q y (upd H l (.lst (xs.eraseIdx k)))
theorem Ax:MtM X "list.pop" Ig:=by
 intro pins s σ H x vs v us Q I rx rv h
 obtain ⟨l,xs,i,k,y,rfl,rfl,hH,h1,h2,hk,hy,q⟩:=h
 cases rx
 obtain ⟨u,rfl,ru⟩:=rv.one
 obtain ⟨t,rfl⟩:=ru
 obtain ⟨z,its,n,r,hl,e⟩:=I.lstM hH
 obtain ⟨w,hw,rw'⟩:=r.get hy
 refine call_meets F.slot_list_pop ⟨_,e,rfl⟩ F.entry_list_pop (F.args_list_pop_2 _ _)
  (MeetsSeq.list_pop_at l its.toArray n i t k w (fitsIndex_both h1 h2) (by rw [List.size_toArray,← hl]; exact hk) (by rw [← Array.getElem?_toList]; exact hw) (by rw [List.size_toArray]; omega)) ⟨e,?_⟩
 refine ⟨y,_,I.lset (its':=its.eraseIdx k) hH e ?_ (r.eraseIdx k) ?_,rw',q⟩
 ·show its.toArray.eraseIdxIfInBounds k=(its.eraseIdx k).toArray
  rw [List.eraseIdxIfInBounds_toArray]
 ·have:=pX xs k
  omega
def Nk:R2:=fun x y H Q=>∃ l b xs zs,x=.ref l∧y=.ref b∧H l=some (.lst xs)∧H b=some (.lst zs)∧xs.length+zs.length≤sizeLine∧∀ p,H p=none→Q (.ref p) (upd H p (.lst (xs++zs)))
theorem DY:OpR X (binaryOp .Add) Nk:=by
 intro pins s σ H x y v u Q I rx ry h
 obtain ⟨l,b,xs,zs,rfl,rfl,hH,hB,hz,q⟩:=h
 cases rx
 cases ry
 obtain ⟨z,its,n,r,hl,e⟩:=I.lstM hH
 obtain ⟨z2,its2,n2,r2,hl2,e2⟩:=I.lstM hB
 refine PySem.P.add_list e e2 ?_ (by rw [List.size_toArray,List.size_toArray]; omega)
 have ea:its.toArray++its2.toArray=(its++its2).toArray:=by simp
 rw [ea]
 exact ⟨.ref _,_,I.lnew (t':=s.toks) (r.append r2) (by rw [List.length_append]; omega),rfl,q _ I.fresh⟩
def M5:R2:=fun x y H Q=>∃ l k xs,x=.ref l∧y=.int k∧H l=some (.lst xs)∧-(2 ^ 63)≤k∧k < 2 ^ 63∧xs.length * k.toNat≤sizeLine ∧
 ∀ p,H p=none→Q (.ref p) (upd H p (.lst (List.replicate k.toNat xs).flatten))
theorem len_rep {α:Type} (xs:List α) (k:Nat):(List.replicate k xs).flatten.length=k * xs.length:=by
 induction k with
 | zero=>simp
 | succ k ih=>rw [List.replicate_succ,List.flatten_cons,List.length_append,ih,Nat.succ_mul,Nat.add_comm]
theorem HJ:OpR X (binaryOp .Mult) M5:=by
 intro pins s σ H x y v u Q I rx ry h
 obtain ⟨l,k,xs,rfl,rfl,hH,h1,h2,hz,q⟩:=h
 cases rx
 obtain ⟨t,rfl⟩:=ry
 obtain ⟨z,its,n,r,hl,e⟩:=I.lstM hH
 have hlen:its.toArray.size * k.toNat≤sizeLine:=by rw [List.size_toArray,← hl]; exact hz
 have hcap:¬ its.toArray.size * k.toNat > (2 ^ 63 - 1) / 8:=by
  have:(sizeLine:Nat)≤(2 ^ 63 - 1) / 8:=by decide
  omega
 have hfit:¬ (!Builtin.List.listFitsIndex k)=true:=by
  rw [fitsIndex_both h1 h2]
  exact Bool.false_ne_true
 have hlong:¬ Builtin.List.listTooLong (its.toArray.size * k.toNat)=true:=by
  rw [tV hlen]
  exact Bool.false_ne_true
 have hnew:List.foldl (fun x1 x2=>x1++x2) #[] (List.replicate (if its.toArray.isEmpty=true then 0 else k.toNat) its.toArray)=(List.replicate k.toNat its).flatten.toArray:=by
  have f0:∀ m:Nat,List.foldl (fun x1 x2=>x1++x2) #[] (List.replicate m its.toArray)=(List.replicate m its).flatten.toArray:=fun m=>by
   have:=foldl_rep its m []
   rw [List.nil_append] at this
   exact this
  rw [f0]
  cases its with
  | nil=>simp
  | cons a r'=>rw [if_neg (by simp)]
 refine wpAny_binaryOp_repeat_ref (T:="list") (U:="int") (by decide) ⟨_,e,rfl⟩ (fun s'=>typeIs_int s' k t) noFill_list_mul F.fills_int_mul F.slot_int_rmul repeat_list F.slot_int_index.lookup
  (call_meets F.slot_int_rmul (typeIs_int s k t) F.entry_int_rmul (F.args_int_rmul_2 _ _) (int___rmul___int_list k t l its.toArray n)
   ⟨e,rfl,⟨_,e,rfl⟩,call_meets F.slot_list_mul ⟨_,e,rfl⟩ F.entry_list_mul (F.args_list_mul_2 _ _) (AutoListH.list___mul___list_int_3 l its.toArray n k t hfit hcap hlong) ⟨e,?_⟩⟩)
 rw [hnew]
 exact ⟨.ref _,_,I.lnew (t':=s.toks) (r.rep k.toNat) (by rw [len_rep,Nat.mul_comm]; exact hz),rfl,q _ I.fresh⟩
end
section
variable {prog:Program} {w:World} {A:Around} {E:Value→Shared→Prop} {s:Shared}
end
section
variable {X:Cx}
end
end L2
namespace Att
open PySem PySem.W PySem.Calls PyProof.Rows
theorem lq {P:Params} {h:Heap}:∀ (ns:List Int) (vs:List Value),WellAll P h vs (ns.map WData.int)→IntsAre vs ns:=by
 intro ns
 induction ns with
 | nil =>
  intro vs w
  rw [List.map_nil] at w
  cases w
  exact .nil
 | cons n ns ih =>
  intro vs w
  rw [List.map_cons] at w
  cases w with
  | cons a b =>
   cases a
   exact .cons _ _ (ih _ b)
theorem wD {l:OpenLaw} {n:Nat} (hn:l.most=some n) {P:Params} {h:Heap} {args:List WData} {vals:List Value}
  (hpre:l.row.toRowW.claim.pre args=true) (hwl:WellAll P h vals args) :
  ∃ a vs ns,vals=[Value.ref a]∧args=[WData.list (ns.map WData.int)]∧h.get? a=some { cls:=.type "list",data:=.seq vs.toArray }∧IntsAre vs ns∧ns.length≤n:=by
 have hsh:WShape.hasAll [] args [.list .int]=true:=(pre_splitW hpre).1
 have hc:l.pre.holds [] { args:=args }=true:=(pre_splitW hpre).2
 obtain ⟨d,r,rfl,h1,h2⟩:=hasAllW_cons hsh
 obtain rfl:=hasAllW_nil h2
 obtain ⟨xs,rfl,h3⟩:=hasW_list h1
 obtain ⟨ns,rfl⟩:=items_int h3
 have hlen:ns.length≤n:=by
  unfold OpenLaw.pre at hc
  have h4:(WTm.not (.lt (.lit (.int (n:Int))) (.len (.arg 0)))).holds [] { args:=[.list (ns.map .int)] }=true:=by
   have h4:=(holds_andW hc).1
   rw [hn] at h4
   exact h4
  have h5:=condW_of h4 (w_not (w_lt w_lit (w_len_list (w_arg rfl))))
  rw [List.length_map] at h5
  refine Nat.le_of_not_lt fun q=>?_
  have q':(n:Int) < ((ns.length:Nat):Int):=by omega
  first
   | (rw [decide_eq_true q'] at h5; exact absurd h5 (by decide))
   | (simp at h5; omega)
 cases hwl with
 | cons w1 w2 =>
  cases w2
  cases w1 with
  | list ho hall=>exact ⟨_,_,ns,rfl,rfl,ho,lq ns _ hall,hlen⟩
theorem zW (l:OpenLaw) (args:List WData):l.row.toRowW.claim.post args (.bool true) args=true :=
 postW_of (r:=l.row.toRowW) (X:=(true == true))
  (show WShape.has [] (.bool true) .bool=true by first | rfl | decide | simp [WShape.has,WShape.arms,WShape.armsAll])
  (show (WTm.eq .res (.lit (.bool true))).value [] { args:=args,res:=some (.bool true),after:=args }=some (.bool (true == true)) from w_eq_bool (w_res rfl) w_lit) rfl
theorem qT {l:OpenLaw} {n:Nat} {q:Program} {loose:List Str} {XP:(Str→Option Value)→Heap→Prop} {YP:World→Heap→Prop} {d:DefRec}
  (hn:l.most=some n) (hdf:d.params.defaults=[])
  (call:∀ (w:World) (s₀ s₁:Shared) (mg mb:Str→Option Value) (fa:Addr) (o:Obj) (pm cd doc:Value) (a:Addr) (vs:List Value) (ns:List Int),
   Ground q loose [] XP w s₀ mg mb s₁.heap→YP w s₁.heap →
   s₁.heap.get? fa=some o→o.data=.func (docDef d.name d.params d.body d.scope pm cd doc)→s₁.heap.CodeRec cd d.name→mg d.name=some (.ref fa) →
   s₁.heap.get? a=some { cls:=.type "list",data:=.seq vs.toArray }→IntsAre vs ns→ns.length≤n→s₁.gens = #[] →
   codeAny (model l.prog w) callerA (.call (.ref fa) ⟨[.ref a],[]⟩) (fun r s'=>r=.ok (.ret (.bool true))∧OldK s₁.heap s'.heap∧s'.os=s₁.os∧AllBare s'.gens) s₁) :
  WalkO q loose XP YP l.row.toRowW d [] (fun f vs=>PySem.call f vs):=by
 intro w s₀ s₁ mg mb G Y fa o pm cd doc dV kV ho hd hcd hD hmg hg args vals as hpre hlay hrd hwl hlo
 obtain rfl:dV=.none:=Dflts.none hD hdf
 obtain rfl:kV=.none:=Dflts.noKw hD
 obtain ⟨a,vs,ns,rfl,rfl,hobj,hints,hlen⟩:=wD hn hpre hwl
 refine enter_call (codeAny_mono (call w s₀ s₁ mg mb fa o pm cd doc a vs ns G Y ho (fd_plain hd) hcd hmg hobj hints hlen hg) fun r s' hq=>?_)
 obtain ⟨rfl,h2,h3,h4⟩:=hq
 exact ⟨.inl ⟨.bool true,.bool true,[],rfl,fun _=>rfl,.bool true,zW l _,fun _=>⟨List.Pairwise.nil,fun _ hm=>(nomatch hm)⟩⟩,h2,h3,h4⟩
section
variable {prog:Program} {w:World} {A:Around} {E:Value→Shared→Prop} {s:Shared} {K:Frag}
def ledger (h:Heap) (L d:Addr):List (Addr × Obj):=(List.range h.objs.size).filterMap fun a=>if a=L∨a=d then none else (h.get? a).map fun o=>(a,o)
end
end Att
namespace L2
open PySem PySem.Spec PyProof.Rows
theorem qj:∀ {vs:List Value} {ns:List Int},IntsAre vs ns→Vals (ns.map V.int) vs
 | _,_,.nil=>.nil
 | _,_,.cons n t h=>.cons ⟨t,rfl⟩ (qj h)
def Only (H:Hp):Prop:=∀ b,H b=none∨∃ o xs,H b=some (.frz o (.lst xs))
theorem CK {P:Program} {w:World} {K:PySem.W.Frag} {mg mb:Str→Option Value} {CX:CXT} {k:Nat} {fa a:Addr} {fd:FuncData} {x:Str} {sp:Sp} {s₁:Shared} {vs:List Value} {ns:List Int}
  (KX:K.In s₁.heap) (hns:s₁.heap.Ns mainGlobals mg) (hb:s₁.heap.Ns builtinsNs mb) (hbb:∀ x:Str,x ≠ "__name__"→mb x=bootBuiltins x) (hlim:s₁.heap.NoLimit) (hg:s₁.gens = #[])
  (ha:s₁.heap.get? a=some { cls:=.type "list",data:=.seq vs.toArray }) (hi:IntsAre vs ns) (hl:ns.length≤sizeLine) (hr:j7 k callerA)
  (F:∀ base:Heap,K.In base→base.Ns mainGlobals mg→n8 P w K mg base CX k fa fd [x] sp) (hbind:∀ (s:Shared) (u:Value),BindsTo s fd ⟨[u],[]⟩ [(x,u)])
  (hsp:∀ H:Hp,Only H→SqL K H a (ns.map V.int)→sp [.ref a] H (fun v _=>v=.bl true) fun _ _ _=>False)
  (hCX:∀ H e s',CX [] H s₁ (fun _ _ _=>False) e s'→False) :
  codeAny (model P w) callerA (.call (.ref fa) ⟨[.ref a],[]⟩) (fun r s'=>r=.ok (.ret (.bool true))∧OldK s₁.heap s'.heap∧s'.os=s₁.os∧AllBare s'.gens) s₁:=by
 have rv:=qj hi
 have lenV:=hi.length
 have core:∀ H:Hp,Only H→SqL K H a (ns.map V.int)→HOk P w H s₁.heap→(∀ b,H b≠none→b=a)→(H a≠none→K.lookup a=none) →
   codeAny (model P w) callerA (.call (.ref fa) ⟨[.ref a],[]⟩) (fun r s'=>r=.ok (.ret (.bool true))∧OldK s₁.heap s'.heap∧s'.os=s₁.os∧AllBare s'.gens) s₁:=by
  intro H hO hS hok hA hK
  have base_of:∀ {b:Addr} {o:Obj},s₁.heap.get? b=some o→H b=none→(CN s₁.heap H).get? b=some o:=fun e n=>Ba e n
  have noA:∀ {b:Addr} {o:Obj} {es:Array DictEntry} {ep:Nat},s₁.heap.get? b=some o→o.data=.dict es ep→H b=none:=fun {b o es ep} e d=>by
   cases q:H b with
   | none=>rfl
   | some u =>
    have e':b=a:=hA b (by rw [q]; simp)
    subst e'
    rw [ha] at e; cases e
    have d':Data.seq vs.toArray _=Data.dict es ep:=d
    cases d'
  have nsK:∀ {b:Addr} {m:Str→Option Value},s₁.heap.Ns b m→(CN s₁.heap H).Ns b m:=fun {b m} ⟨o,es,ep,e,d,r⟩=>⟨o,es,ep,base_of e (noA e d),d,r⟩
  have hKb:K.In (CN s₁.heap H):=fun b o e=>base_of (KX b o e) (by
   cases q:H b with
   | none=>rfl
   | some u =>
    have e':b=a:=hA b (by rw [q]; simp)
    subst e'
    rw [hK (by rw [q]; simp)] at e; cases e)
  have hM:Mod K mg (CN s₁.heap H):=⟨hKb,nsK hns,⟨mb,nsK hb,hbb⟩,let ⟨mc,h1,h2⟩:=hlim; ⟨mc,nsK h1,h2⟩⟩
  have e0:Jh P w K mg (CN s₁.heap H) callerA [] s₁ H:=⟨rfl,hM,fun b o e=>Gq e,Nat.le_of_eq (vX _ _),trivial,fun b hb=>absurd (show b∈([]:List Addr) from hb) (by simp),hok,.of_eq hg⟩
  refine codeAny_mono ((F _ hKb (nsK hns)).run callerA [] s₁ H ⟨[.ref a],[]⟩ [.ref a] [.ref a] _ _ hr e0 (hbind s₁ (.ref a)) (.cons rfl .nil) (hsp H hO hS)) fun r s' h=>?_
  cases r with
  | error e=>exact (hCX H e s' h).elim
  | ok fl =>
   cases fl with
   | next=>exact False.elim h
   | brk=>exact False.elim h
   | cont=>exact False.elim h
   | ret u =>
    obtain ⟨v,H',os,bare,un,hok',r',q⟩:=h
    have q':v=.bl true:=q
    subst q'
    obtain rfl:u=Value.bool true:=r'
    refine ⟨rfl,OldK.of_keep fun b o e=>?_,os,bare⟩
    cases q:H b with
    | none=>exact un.keep b o e q (by intro z; exact absurd (show b∈([]:List Addr) from z) (by simp)) (by simp)
    | some u =>
     rcases hO b with z | ⟨ob,xs,z⟩
     ·rw [q] at z; cases z
     ·have z2:=un.frzs b ob _ z
      obtain ⟨e1,_⟩:=hok b _ z
      obtain ⟨e2,_⟩:=hok' b _ z2
      rw [e] at e1; cases e1
      exact e2
 cases hk:K.lookup a with
 | some o =>
  have e:=KX a o hk
  rw [ha] at e
  cases e
  refine core (fun _=>none) (fun _=>.inl rfl) (.inr ⟨_,vs.toArray,_,hk,rfl,rfl,rfl,by rw [List.size_toArray,lenV]; exact hl,by simpa using rv⟩) (fun b u z=>by have z':(none:Option HO)=some u:=z; cases z') (fun b z=>absurd rfl z) fun z=>absurd rfl z
 | none =>
  refine core (fun b=>if b=a then some (.frz { cls:=.type "list",data:=.seq vs.toArray } (.lst (ns.map V.int))) else none) (fun b=>?_) (.inl (.inr ⟨{ cls:=.type "list",data:=.seq vs.toArray },if_pos rfl⟩)) (fun b u z=>?_) (fun b z=>?_) fun _=>hk
  ·by_cases hb:b=a
   ·exact .inr ⟨_,_,if_pos hb⟩
   ·exact .inl (if_neg hb)
  ·by_cases hb:b=a
   ·have z':=(if_pos hb).symm.trans z
    cases z'
    subst hb
    exact ⟨ha,by rw [List.length_map]; exact hl,vs,_,rv,ha⟩
   ·have z':=(if_neg hb).symm.trans z
    cases z'
  ·by_cases hb:b=a
   ·exact hb
   ·exact absurd (if_neg hb) z
end L2
namespace L2
open PySem PySem.Spec PyProof.Rows
abbrev KOf {K:PySem.W.Frag} {h:Heap} (_:K.In h):PySem.W.Frag:=K
theorem Gs {l:PySem.W.OpenLaw} {n k:Nat} {q:Program} {loose:List Str} {XP:(Str→Option Value)→Heap→Prop} {YP:World→Heap→Prop} {d:DefRec} {K:Params→PySem.W.Frag} {CX:World→CXT} {sp:World→Sp} {x:Str}
  (hn:l.most=some n) (hn2:n≤sizeLine) (hdf:d.params.defaults=[]) (hr:j7 k callerA)
  (hY:∀ (w:World) (h:Heap),YP w h→(K w.params).In h)
  (F:∀ (w:World) (mg:Str→Option Value) (fa:Addr) (h:Heap),(K w.params).In h→h.Ns mainGlobals mg→mg d.name=some (.ref fa) →
   ∃ fd:FuncData,(∀ (s:Shared) (u:Value),BindsTo s fd ⟨[u],[]⟩ [(x,u)]) ∧
    ∀ base:Heap,(K w.params).In base→base.Ns mainGlobals mg→n8 l.prog w (K w.params) mg base (CX w) k fa fd [x] (sp w))
  (hsp:∀ (w:World) (H:Hp) (a:Addr) (ns:List Int),ns.length≤n→Only H→SqL (K w.params) H a (ns.map V.int)→sp w [.ref a] H (fun v _=>v=.bl true) fun _ _ _=>False)
  (hCX:∀ (w:World) (H:Hp) (s:Shared) (e:Value) (s':Shared),CX w [] H s (fun _ _ _=>False) e s'→False) :
  PySem.W.WalkO q loose XP YP l.row.toRowW d [] (fun f vs=>PySem.call f vs):=by
 refine Att.qT hn hdf fun w s₀ s₁ mg mb fa o pm cd doc a vs ns G Y ho hd hcd hmg hobj hints hlen hg=>?_
 have KX:=hY w _ Y
 obtain ⟨fd,hb,hF⟩:=F w mg fa _ KX G.T.g hmg
 exact CK KX G.T.g G.T.b G.T.builtins G.T.nolimit hg hobj hints (Nat.le_trans hlen hn2) hr hF hb (fun H hO hS=>hsp w H a ns hlen hO hS) fun H e s'=>hCX w H s₁ e s'
end L2
namespace L2
open PySem PySem.Spec PyProof.Rows
def aO (s:Stmt):Arguments:=match s with
 | .FunctionDef _ a _ _ _ _ _ _ _ _=>a
 | _=>{ posonlyargs:=[],args:=[],vararg:=none,kwonlyargs:=[],kw_defaults:=[],kwarg:=none,defaults:=[] }
def aN (s:Stmt):List Stmt:=match s with
 | .FunctionDef _ _ b _ _ _ _ _ _ _=>b
 | _=>[]
def au (s:Stmt):Scope:=match s with
 | .FunctionDef _ _ _ _ _ _ sc _ _ _=>sc
 | _=>{ kind:=.function,names:=[],isGenerator:=false,isCoroutine:=false }
abbrev CX0:CXT:=fun _ _ _ _ _ _=>False
abbrev E0:XK:=fun _ _ _=>False
theorem Hr {X:Cx}:Passes CX0 X E0:=fun _ _ _ _ _ _ _ h=>h.elim
structure Fun (K:PySem.W.Frag) (x qual:Str) (st:Stmt) (f:Addr) (fd:FuncData):Prop where
 ex:∃ (oc:Value) (od:Option Addr) (kV doc pm:Value) (an:Option Addr) (cdv ct:Value) (osl:Array (Option Value)),
  fd=PySem.W.fnOf x qual (aO st) (aN st) (au st) .none kV doc pm an cdv ct∧K.lookup f=some ⟨oc,od,.func fd,osl⟩∧PySem.W.codeIn K cdv qual=true
 kp:PySem.W.keepIn K (.ref f)=true
section
variable {P:Program} {w:World} {K:PySem.W.Frag} {mg:Str→Option Value} {base:Heap}
theorem Fun.ok {x qual:Str} {st:Stmt} {f:Addr} {fd:FuncData} {N ps:List Str} {k:Nat} {sp:Sp} (F:Fun K x qual st f fd) (S:aP N ps (au st)) (len:∀ vs H Q E,sp vs H Q E→vs.length=ps.length)
  (hbody:∀ (cdv:Value) (A:Around) (outer:List Env) (s:Shared) (H:Hp) (vs:List V) (Q:VK) (E:XK),j7 k (A.deeper (envOfC qual (au st) s.heap.objs.size f cdv))→sp vs H Q E →
   ∃ t,PSs (Fz CX0 P w K mg base N qual (au st) f cdv A outer s H E).nox (aN st) t∧t { nx:=fun _ H'=>Q .non H',rt:=Q } (start N vs) H):n8 P w K mg base CX0 (k+1) f fd ps sp:=by
 obtain ⟨oc,od,kV,doc,pm,an,cdv,ct,osl,rfl,lk,hcd⟩:=F.ex
 refine Lh lk hcd S len fun A outer s H vs Q E hr hsp=>?_
 obtain ⟨t,h,q⟩:=hbody cdv A outer s H vs Q E hr hsp
 exact ⟨t,h.nox,q⟩
theorem Fun.binds {x qual:Str} {st:Stmt} {f:Addr} {fd:FuncData} {ps:List Str} (F:Fun K x qual st f fd)
  (h:∀ (kV doc pm:Value) (an:Option Addr) (cdv ct:Value) (us:List Value),us.length=ps.length→bindArgs (PySem.W.fnOf x qual (aO st) (aN st) (au st) .none kV doc pm an cdv ct) ⟨us,[]⟩=pure (ps.zip us)):Binds K fd ps []:=by
 obtain ⟨oc,od,kV,doc,pm,an,cdv,ct,osl,rfl,lk,hcd⟩:=F.ex
 exact .all (h kV doc pm an cdv ct)
theorem bC {x qual:Str} {st:Stmt} {f:Addr} {oc:Value} {od an:Option Addr} {osl:Array (Option Value)} {kV doc pm cdv ct:Value} (l:K.lookup f=some ⟨oc,od,.func (PySem.W.fnOf x qual (aO st) (aN st) (au st) .none kV doc pm an cdv ct),osl⟩)
  (c:PySem.W.codeIn K cdv qual=true) (k:PySem.W.keepIn K (.ref f)=true):Fun K x qual st f (PySem.W.fnOf x qual (aO st) (aN st) (au st) .none kV doc pm an cdv ct):=⟨⟨oc,od,kV,doc,pm,an,cdv,ct,osl,rfl,l,c⟩,k⟩
end
theorem zK {A:Around} {k:Nat} (hr:j7 k A):A.units+1 < cLine:=Nat.lt_of_le_of_lt (Nat.add_le_add_left (by decide:1≤64) _) hr.units
theorem aH {n:Nat} (h:n≤1000):n < sizeLine:=Nat.lt_of_le_of_lt h (by decide)
section
variable {X:Cx}
theorem pv (i:Nat) {x:Str} {pos:Pos} (hN:X.N[i]?=some x:=by rfl) (hv:Vis X.env.scope x:=by first | exact Or.inl rfl | exact Or.inr (Or.inl rfl) | exact Or.inr (Or.inr rfl)) (hd:(x == ("__debug__" : Str))=false:=by decide)
  (hcd:(x == ("__classdict__" : Str))=false:=by decide):PE X (.Name x pos) (vo i):=HD hN hv hd hcd
end
theorem qM {A B:Prop} (h:B):if false=true then A else B:=by
 rw [if_neg Bool.false_ne_true]
 exact h
theorem gB {A B:Prop} (h:A):if true=true then A else B:=by
 rw [if_pos rfl]
 exact h
theorem dR {c A B:Prop} [Decidable c] (h1:c→A) (h2:¬ c→B):if c then A else B:=by
 by_cases h:c
 ·rw [if_pos h]
  exact h1 h
 ·rw [if_neg h]
  exact h2 h
def Same (H H':Hp):Prop:=∀ b o,H b=some o→H' b=some o
theorem Same.refl (H:Hp):Same H H:=fun _ _ h=>h
theorem Same.trans {H H1 H2:Hp} (a:Same H H1) (b:Same H1 H2):Same H H2:=fun c o h=>b c o (a c o h)
theorem Same.seq {K:PySem.W.Frag} {H H':Hp} {a:Addr} {xs:List V} (e:Same H H') (h:SqL K H a xs):SqL K H' a xs:=by
 rcases h with (h | ⟨o,h⟩) | h
 ·exact .inl (.inl (e _ _ h))
 ·exact .inl (.inr ⟨o,e _ _ h⟩)
 ·exact .inr h
end L2
set_option maxHeartbeats 4000000
namespace L2
open PySem PySem.Spec PyProof.Rows
theorem gO {env:Env}:∀ (names:List (Str × NameKind)) (acc:List (Str × Addr)),(∀ y∈names,y.2=.free→∃ c,env.cells.lookup y.1=some c) →
  ∃ cl,(forIn names acc (fun (x:Str × NameKind) (cs:List (Str × Addr))=>(if x.2 == .free then (do let c ← cellOf env x.1; pure (ForInStep.yield ((x.1,c) :: cs))) else pure (ForInStep.yield cs):Sem (ForInStep (List (Str × Addr))))))=pure cl ∧
   (∀ y∈names,y.2=.free→∃ c,cl.lookup y.1=some c)∧(∀ y c,acc.lookup y=some c→∃ d,cl.lookup y=some d)∧(∀ y c,cl.lookup y=some c→env.cells.lookup y=some c∨acc.lookup y=some c)
 | [],acc,_=>⟨acc,rfl,(fun _ h=>nomatch h),(fun y c h=>⟨c,h⟩),(fun y c h=>.inr h)⟩
 | (n,k) :: r,acc,h=>by
  rw [List.forIn_cons]
  by_cases hk:k=.free
  ·subst hk
   obtain ⟨c,hc⟩:=h (n,.free) List.mem_cons_self rfl
   obtain ⟨cl,e,h1,h2,h3⟩:=gO r ((n,c) :: acc) fun y hy=>h y (List.mem_cons_of_mem _ hy)
   refine ⟨cl,?_,?_,?_,?_⟩
   ·have e0:cellOf env n=pure c:=by unfold cellOf; rw [hc]
    simp only [beq_self_eq_true,if_true,e0,pure_bind]
    exact e
   ·intro y hy hf
    rcases List.mem_cons.mp hy with rfl | hy
    ·exact h2 n c (by simp)
    ·exact h1 y hy hf
   ·intro y d hd
    by_cases e1:y=n
    ·subst e1; exact h2 y c (by simp)
    ·exact h2 y d (by rw [List.lookup_cons,beq_eq_false_iff_ne.mpr e1]; exact hd)
   ·intro y d hd
    rcases h3 y d hd with q | q
    ·exact .inl q
    ·by_cases e1:y=n
     ·subst e1
      simp at q
      exact .inl (by rw [← q]; exact hc)
     ·rw [List.lookup_cons,beq_eq_false_iff_ne.mpr e1] at q
      exact .inr q
  ·have hb:(k == NameKind.free)=false:=by simpa using hk
   obtain ⟨cl,e,h1,h2,h3⟩:=gO r acc fun y hy=>h y (List.mem_cons_of_mem _ hy)
   refine ⟨cl,?_,?_,h2,h3⟩
   ·simp only [hb,Bool.false_eq_true,if_false,pure_bind]
    exact e
   ·intro y hy hf
    rcases List.mem_cons.mp hy with rfl | hy
    ·exact absurd hf hk
    ·exact h1 y hy hf
theorem mL {scope:Scope} {env:Env} (h:∀ y∈scope.names,y.2=.free→∃ c,env.cells.lookup y.1=some c) :
  ∃ cl,closureFor scope env=pure cl∧(∀ y∈scope.names,y.2=.free→∃ c,cl.lookup y.1=some c)∧∀ y c,cl.lookup y=some c→env.cells.lookup y=some c:=by
 obtain ⟨cl,e,h1,_,h3⟩:=gO scope.names [] h
 refine ⟨cl,?_,h1,fun y c q=>(h3 y c q).elim id fun z=>by simp at z⟩
 rw [← e]
 unfold closureFor
 simp only [bind_pure]
theorem gH {env:Env}:∀ {names:List (Str × NameKind)} {x:Str},names.lookup x=some .free →
  (names.map fun (n,k)=>if (k == NameKind.free && env.scope.kind == .function && env.kindOf n == some .cell) then (n,NameKind.cell) else (n,k)).lookup x=some .cell ∨
  (names.map fun (n,k)=>if (k == NameKind.free && env.scope.kind == .function && env.kindOf n == some .cell) then (n,NameKind.cell) else (n,k)).lookup x=some .free
 | [],_,h=>by simp at h
 | (n,k) :: r,x,h=>by
  have ih:=@gH env r x
  rw [List.map_cons]
  cases hx:x == n with
  | true =>
   simp only [List.lookup_cons,hx] at h
   cases h
   by_cases hc:(NameKind.free == NameKind.free && env.scope.kind == .function && env.kindOf n == some .cell)=true
   ·left; simp only [if_pos hc,List.lookup_cons,hx]
   ·right; simp only [if_neg hc,List.lookup_cons,hx]
  | false =>
   simp only [List.lookup_cons,hx] at h
   by_cases hc:(k == NameKind.free && env.scope.kind == .function && env.kindOf n == some .cell)=true
   ·simp only [if_pos hc,List.lookup_cons,hx]; exact ih h
   ·simp only [if_neg hc,List.lookup_cons,hx]; exact ih h
theorem iQ {env:Env}:∀ {names:List (Str × NameKind)} {x:Str} {k':NameKind},
  (names.map fun (n,k)=>if (k == NameKind.free && env.scope.kind == .function && env.kindOf n == some .cell) then (n,NameKind.cell) else (n,k)).lookup x=some k'→(k'=.cell∨k'=.free) →
  ∃ k,(x,k)∈names∧(k=.cell∨k=.free)
 | [],_,_,h,_=>by simp at h
 | (n,k) :: r,x,k',h,hk=>by
  have ih:=@iQ env r x k'
  rw [List.map_cons] at h
  cases hx:x == n with
  | true =>
   have e:x=n:=by simpa using hx
   subst e
   by_cases hc:(k == NameKind.free && env.scope.kind == .function && env.kindOf x == some .cell)=true
   ·refine ⟨k,List.mem_cons_self,.inr ?_⟩
    simp only [Bool.and_eq_true,beq_iff_eq] at hc
    exact hc.1.1
   ·simp only [if_neg hc,List.lookup_cons,beq_self_eq_true] at h
    cases h
    exact ⟨k,List.mem_cons_self,hk⟩
  | false =>
   have h':(r.map fun (n,k)=>if (k == NameKind.free && env.scope.kind == .function && env.kindOf n == some .cell) then (n,NameKind.cell) else (n,k)).lookup x=some k':=by
    by_cases hc:(k == NameKind.free && env.scope.kind == .function && env.kindOf n == some .cell)=true
    ·simpa only [if_pos hc,List.lookup_cons,hx] using h
    ·simpa only [if_neg hc,List.lookup_cons,hx] using h
   obtain ⟨q,m,z⟩:=ih h' hk
   exact ⟨q,List.mem_cons_of_mem _ m,z⟩
abbrev cJ (X:Cx) (scope:Scope) (N:List Str) (cl:List (Str × Addr)) (C:Addr) (s:Shared) (H:Hp) (ex:List Addr) (pn:List (Addr × Obj)) (E:Value→Shared→Prop):Cx :=
 { X with N:=N,s₀:=s,H₀:=H,env:=compEnvC scope cl C X.env,outer:=X.stack,stack:=X.stack,ex:=ex,fn:=fun _=>false,pn:=pn,xe:=E }
theorem uG {X:Cx} {pins:List (Addr × Obj)} {σ σ':St} {H:Hp} {s:Shared} {scope:Scope} {N:List Str} {cl:List (Str × Addr)} {fp:List Addr} {E:Value→Shared→Prop} {h1:Heap} {t:Nat}
  (I:Inv X pins σ H s) (hkind:scope.kind=.function) (hcell:∀ y∈scope.names,y.2≠.cell) (hfree:∀ y∈scope.names,y.2=.free→X.env.kindOf y.1=some .cell∨X.env.kindOf y.1=some .free)
  (hcl1:∀ y∈scope.names,y.2=.free→∃ c,cl.lookup y.1=some c) (hcl2:∀ y c,cl.lookup y=some c→X.env.cells.lookup y=some c)
  (hf:∀ b∈fp,vd X pins H b) (hfo:∀ b∈fp,∃ o,s.heap.get? b=some o)
  (hl:σ'.length=N.length) (hσ:∀ (i:Nat) (x:Str) (v:V),N[i]?=some x→σ'[i]?=some (some v)→scope.names.lookup x=some .free∧∃ j:Nat,X.N[j]?=some x∧σ[j]?=some (some v))
  (hns:h1.Ns s.heap.objs.size (fun _=>none)) (hold:∀ b o,s.heap.get? b=some o→h1.get? b=some o) :
  Inv (cJ X scope N cl s.heap.objs.size s H fp (X.pn++pins) E) [] σ' H { s with heap:=h1,toks:=t }:=by
 have szc:∀ b o,s.heap.get? b=some o→b≠s.heap.objs.size:=fun b o e=>Nat.ne_of_lt (Heap.lt_size e)
 have okY:(cJ X scope N cl s.heap.objs.size s H fp (X.pn++pins) E).Ok:=by
  refine ⟨I.ok.mod,hkind,I.ok.glob,I.ok.blt,Nat.le_refl _,fun x y c e1 e2=>I.ok.inj x y c (hcl2 _ _ e1) (hcl2 _ _ e2),fun x hx=>?_,fun x c hfn _=>?_,I.ok.hd,I.ok.frames,.inl rfl,fun b hb=>⟨?_,fun x c e z=>?_⟩,I.bs,Nat.le_trans I.ok.bsz I.sz,fun b o e hb=>?_,fun b hb z=>?_,I.stack,I.stkFree⟩
  ·have hx':(relabel scope X.env).names.lookup x=some .cell∨(relabel scope X.env).names.lookup x=some .free:=hx
   have q:∃ k,(x,k)∈scope.names∧(k=.cell∨k=.free):=by
    rcases hx' with z | z
    ·exact iQ z (.inl rfl)
    ·exact iQ z (.inr rfl)
   obtain ⟨k,hm,hk⟩:=q
   rcases hk with rfl | rfl
   ·exact absurd rfl (hcell _ hm)
   ·exact hcl1 _ hm rfl
  ·exact absurd (show false=true from hfn) (by decide)
  ·obtain ⟨o,e⟩:=hfo b hb
   exact szc b o e
  ·exact (hf b hb).2.2.2.2.1 x c (hcl2 _ _ e) z
  ·rcases (hf b hb).2.2.2.1 with z | z
   ·exact I.ok.noex b o e z
   ·exact absurd (Nat.lt_of_lt_of_le (Heap.lt_size e) (Nat.le_trans I.ok.bsz z)) (Nat.lt_irrefl _)
  ·rcases List.mem_cons.mp (I.stkSub b z) with q | q
   ·exact (hf b hb).2.1 q
   ·exact (hf b hb).2.2.1 q
 obtain ⟨m,hn,hlook⟩:=id I.loc
 refine ⟨okY,rfl,I.bare,Un.kept hold,⟨_,hns,fun i x v e1 e2 _=>?_⟩,fun x c e=>?_,I.hok.fresh (Nat.le_refl _),fun x c e=>I.freeC x c (hcl2 _ _ e),fun p hp=>?_,I.hok.kept hold,hl⟩
 ·obtain ⟨hfr,j,ej,es⟩:=hσ i x v e1 e2
  have hm:(x,NameKind.free)∈scope.names:=PySem.mem_of_lookup hfr
  have hk:=hfree _ hm rfl
  have hv:Vis X.env.scope x:=by
   rcases hk with z | z
   ·exact .inr (.inl z)
   ·exact .inr (.inr z)
  obtain ⟨u,r,l⟩:=hlook j x v ej es hv
  refine ⟨u,r,.inr ⟨?_,?_⟩⟩
  ·exact gH hfr
  ·rcases l with ⟨k,_⟩ | ⟨_,c,ec,hc⟩
   ·rcases hk with z | z <;> (rw [k] at z; cases z)
   ·obtain ⟨d,hd⟩:=hcl1 _ hm rfl
    have e:=hcl2 _ _ hd
    have ec':X.env.cells.lookup x=some d:=e
    rw [ec] at ec'; cases ec'
    obtain ⟨o,ho,hod⟩:=hc
    exact ⟨c,hd,o,hold c o ho,hod⟩
 ·obtain ⟨v,o,ho,hod⟩:=I.cell x c (hcl2 _ _ e)
  exact ⟨v,o,hold c o ho,hod⟩
 ·have hp':p∈X.pn++pins:=by simpa using hp
  obtain ⟨a1,a2,a3,a4,a5⟩:=I.pin p hp'
  refine ⟨hold _ _ a1,a2,szc _ _ a1,fun z=>?_,a5⟩
  rcases List.mem_cons.mp (I.stkSub _ z) with q | q
  ·exact a3 q
  ·exact a4 q
def G5 (X:Cx) (ifs:List Expr) (t:TT):Prop :=
 ∀ (pins:List (Addr × Obj)) (s:Shared) (σ:St) (H:Hp) (Q:Bool→Hp→Prop),Inv X pins σ H s→t σ H Q →
  wpAny (model X.prog X.w) X.A (forIn ifs true fun c r=>if r=true then do let ok ← isTrue c X.env (eval c X.env); pure (ForInStep.yield ok) else pure (ForInStep.yield r)) (TP X pins σ Q) X.xe s
def G6:TT:=fun _ H Q=>Q true H
theorem bh {X:Cx}:G5 X [] G6:=fun _ _ _ H _ I h=>wpAny_tests_nil ⟨H,I,h⟩
theorem jc {X:Cx} {c:Expr} {t:TT} (h:PT X c t):G5 X [c] t:=fun pins s σ H Q I hw=>wpAny_tests_one (h pins s σ H Q I hw)
section
variable {prog:Program} {w:World} {A:Around} {R:Result→Shared→Prop} {s:Shared}
theorem eO {elt target iter:Expr} {ifs:List Expr} {scope:Scope} {pos:Pos} {it acc:Value} {env:Env} (I:Nat→Shared→Prop)
  (turn:∀ n s,I n s→wpAny (model prog w) A (pyNext it) (fun r s₁=>match r with
   | none=>R (.ok .next) s₁
   | some v=>wpAny (model prog w) A (letOwnedTupleGo target it v) (fun _ s₁'=>wpAny (model prog w) A (assign target env v) (fun _ s₂ =>
     wpAny (model prog w) A (forIn ifs true fun c r=>if r=true then do let ok ← isTrue c env (eval c env); pure (ForInStep.yield ok) else pure (ForInStep.yield r)) (fun ok s₃ =>
      if ok=true then wpAny (model prog w) A (eval elt env) (fun x s₄ =>
       wpAny (model prog w) A (call (.builtin "list.append") [acc,x]) (fun _ s₅=>∃ m,m < n∧I m s₅) (notedBy (model prog w) A env fun e s'=>R (.error e) s') s₄) (notedBy (model prog w) A env fun e s'=>R (.error e) s') s₃
      else ∃ m,m < n∧I m s₃) (notedBy (model prog w) A env fun e s'=>R (.error e) s') s₂) (notedBy (model prog w) A env fun e s'=>R (.error e) s') s₁') (notedBy (model prog w) A env fun e s'=>R (.error e) s') s₁)
    (notedBy (model prog w) A env fun e s'=>R (.error e) s') s)
  (n:Nat) (h:I n s) :
  codeAny (model prog w) A (.compLoop (.ListComp elt [⟨target,iter,ifs,0⟩] scope pos) 0 it acc env) R s:=by
 refine codeAny_loop rfl I (fun n s hI=>?_) n h
 show wpAny _ A ((compTurn (.ListComp elt [⟨target,iter,ifs,0⟩] scope pos) 0 it acc env).onRaise (fun x=>do noteFrame x env; theTreesLotGoes x)) _ _ s
 refine wpAny_noted ?_
 rw [compTurn_list]
 refine wpAny_bind (wpAny_standAt (wpAny_bind (wpAny_mono (turn n s hI) (fun r s₁ h₁=>?_) fun _ _ h'=>h')))
 cases r with
 | none=>exact wpAny_pure h₁
 | some v =>
  refine wpAny_bind (wpAny_mono h₁ (fun _ s₁' h₁'=>?_) fun _ _ h'=>h')
  refine wpAny_bind (wpAny_mono h₁' (fun _ s₂ h₂=>wpAny_bind (wpAny_mono h₂ (fun ok s₃ h₃=>?_) fun _ _ h'=>h')) fun _ _ h'=>h')
  cases ok with
  | false=>exact wpAny_pure ⟨rfl,h₃⟩
  | true =>
   exact wpAny_bind (wpAny_bind (wpAny_mono h₃ (fun x s₄ h₄=>wpAny_bind (wpAny_mono h₄ (fun _ s₅ h₅=>wpAny_pure (wpAny_pure ⟨rfl,h₅⟩)) fun _ _ h'=>h')) fun _ _ h'=>h'))
end
def Al (wi:TI) (g:TG) (tc:TT) (te:TE) (lift:St→St):TE:=fun σ H Q=>wi σ H fun J H1=>∀ l,H1 l=none→∃ W:Nat→Nat→St→Hp→Prop,(∃ m,W 0 m (lift σ) (upd H1 l (.lst [])))∧∀ i m σ H,W i m σ H →
 (J.stop i H∧Q (.ref l) H)∨(J.go i H∧∃ N:St→Hp→Prop,(∀ σ' H',N σ' H'→∃ m',m' < m∧W (i+1) m' σ' H') ∧
  ∀ x H',J.yld i H x H'→g x σ H' fun σ2 H2=>tc σ2 H2 fun b H3=>if b=true then te σ2 H3 fun v H4=>∃ ys,H4 l=some (.lst ys)∧ys.length < sizeLine∧N σ2 (upd H4 l (.lst (ys++[v]))) else N σ2 H3)
theorem Ga {X:Cx} {elt tg iter:Expr} {ifs:List Expr} {scope:Scope} {pos:Pos} {wi:TI} {g:TG} {tc:TT} {te:TE} (N:List Str) (lift:St→St) (hc:X.calm=true) (hi:PI X tg iter wi)
  (hkind:scope.kind=.function) (hcell:∀ y∈scope.names,y.2≠.cell) (hfree:∀ y∈scope.names,y.2=.free→X.env.kindOf y.1=some .cell∨X.env.kindOf y.1=some .free)
  (hnames:∀ y∈scope.names,y.2=.local→scope.names.lookup y.1=some .local)
  (hlen:∀ σ:St,σ.length=X.N.length→(lift σ).length=N.length)
  (hσ:∀ (σ:St) (i:Nat) (x:Str) (v:V),σ.length=X.N.length→N[i]?=some x→(lift σ)[i]?=some (some v)→scope.names.lookup x=some .free∧∃ j:Nat,X.N[j]?=some x∧σ[j]?=some (some v))
  (hg:∀ cl C s H ex pn E,PG (cJ X scope N cl C s H ex pn E) tg g) (ht:∀ cl C s H ex pn E,G5 (cJ X scope N cl C s H ex pn E) ifs tc) (he:∀ cl C s H ex pn E,PE (cJ X scope N cl C s H ex pn E) elt te)
  (hs:∀ x,foldedSetIterable iter X.env x=pure x:=by intro _; rfl) :
  PE X (.ListComp elt [⟨tg,iter,ifs,0⟩] scope pos) (Al wi g tc te lift):=by
 intro pins s σ H Q I h
 rw [eval_ListComp]
 obtain ⟨cl,hclos,hcl1,hcl2⟩:=mL (scope:=scope) (env:=X.env) fun y hy hf=>I.ok.has y.1 (hfree y hy hf)
 refine wpAny_comprehension_free (use:=none) rfl hs hclos hkind hnames (thn (hi pins s σ H _ I h) fun v s1 h1=>thn h1 fun itv s2 h2=>?_)
 obtain ⟨it,fp,tn,J,H2,e,I2,T,st2,f2,q⟩:=h2
 subst e
 refine wpAny_newObj_type (wpAny_newFunctionEnv hcell (by intro y hy; simp at hy) (fun h₁ hns₁ hsb₁=>?_) hkind)
 have I3:Inv X pins σ (upd H2 s2.heap.objs.size (.lst [])) { s2 with heap:=s2.heap.push { cls:=.type "list",data:=.seq ([]:List Value).toArray } }:=I2.lnew (its:=[]) (t':=s2.toks) .nil (Nat.zero_le _)
 have fr:H2 s2.heap.objs.size=none:=I2.fresh
 have hold:∀ b o,(s2.heap.push { cls:=.type "list",data:=.seq ([]:List Value).toArray }).get? b=some o→h₁.get? b=some o:=fun b o e=>hsb₁.extBut b o (Nat.ne_of_lt (Heap.lt_size e)) (Heap.get?_push_of_some _ e)
 have f3:∀ b∈fp,vd X pins (upd H2 s2.heap.objs.size (.lst [])) b:=fun b hb=>by
  obtain ⟨o,eo,_⟩:=T.obj 0 _ st2 b hb
  exact ⟨by rw [aM (Nat.ne_of_lt (Heap.lt_size eo))]; exact (f2 b hb).1,(f2 b hb).2⟩
 have fo:∀ b∈fp,∃ o,(s2.heap.push { cls:=.type "list",data:=.seq ([]:List Value).toArray }).get? b=some o:=fun b hb=>by
  obtain ⟨o,eo,_⟩:=T.obj 0 _ st2 b hb
  exact ⟨o,Heap.get?_push_of_some _ eo⟩
 generalize hP:s2.heap.push { cls:=.type "list",data:=.seq ([]:List Value).toArray }=P at *
 obtain ⟨W,⟨m0,w0⟩,turn⟩:=q s2.heap.objs.size fr
 generalize hL:s2.heap.objs.size=L at *
 let R:Result→Shared→Prop:=compPost (model X.prog X.w) X.A X.xe none (EP X pins σ Q) (.ref L) P.objs.size
 let Y:Cx:=cJ X scope N cl P.objs.size { s2 with heap:=P } (upd H2 L (.lst [])) fp (X.pn++pins) (notedBy (model X.prog X.w) X.A (compEnvC scope cl P.objs.size X.env) fun e s'=>R (.error e) s')
 have IY:Inv Y [] (lift σ) (upd H2 L (.lst [])) { s2 with heap:=h₁,toks:=s2.toks+([]:List (Str × Value)).length } :=
  uG (s:={ s2 with heap:=P }) I3 hkind hcell hfree hcl1 hcl2 f3 fo (hlen σ I.len) (fun i x v=>hσ σ i x v I.len) hns₁ hold
 have stY:tn 0 h₁:=T.keep _ _ _ st2 fun b hb o e=>hold b o (by rw [← hP]; exact Heap.get?_push_of_some _ e)
 have fC:∀ b∈fp,b≠P.objs.size∧(b∈fp):=fun b hb=>by
  obtain ⟨o,eo⟩:=fo b hb
  exact ⟨Nat.ne_of_lt (Heap.lt_size eo),hb⟩
 have fpY:∀ {H':Hp},(∀ b∈fp,H' b=none)→∀ b∈fp,vd Y [] H' b:=fun {H'} hn b hb=>by
  refine ⟨hn b hb,(fC b hb).1,fun z=>?_,.inl hb,fun x c ex=>(f3 b hb).2.2.2.2.1 x c (hcl2 _ _ ex),fun p hp=>?_⟩
  ·rcases List.mem_cons.mp (I3.stkSub b z) with y | y
   ·exact (f3 b hb).2.1 y
   ·exact (f3 b hb).2.2.1 y
  ·have hp':p∈(X.pn++pins)++[]:=hp
   rw [List.append_nil] at hp'
   exact (f3 b hb).2.2.2.2.2 p hp'
 have loop:∀ s4:Shared,s4={ s2 with heap:=h₁,toks:=s2.toks+([]:List (Str × Value)).length } →
   codeAny (model X.prog X.w) X.A (.compLoop (.ListComp elt [⟨tg,iter,ifs,0⟩] scope pos) 0 (.ref it) (.ref L) (compEnvC scope cl P.objs.size X.env)) R s4:=by
  rintro s4 rfl
  refine eO (fun n s'=>∃ i σ' H',Inv Y [] σ' H' s'∧tn i s'.heap∧(∀ b∈fp,H' b=none)∧W i n σ' H') ?_ m0 ⟨0,_,_,IY,stY,fun b hb=>(f3 b hb).1,w0⟩
  rintro n s5 ⟨i,σ5,H5,I5,st5,fr5,w5⟩
  rcases turn i n σ5 H5 w5 with ⟨stop,qn⟩ | ⟨go,Nx,hNx,step⟩
  ·refine thn (T.done Y rfl rfl rfl hc i [] s5 σ5 H5 Y.xe I5 (fpY fr5) st5 stop) fun r s6 ⟨hr,I6⟩=>?_
   subst hr
   show R (.ok .next) s6
   obtain ⟨m6,hn6,_⟩:=id I6.loc
   have IX:Inv X pins σ H5 s6:=I3.call' (s':=s6) (ch:=fp) I6.os I6.base I6.hok I6.bare fun b hb=>⟨(f3 b hb).2.2.2.1,(f3 b hb).2.1,(f3 b hb).2.2.2.2.1,(f3 b hb).2.2.2.2.2⟩
   refine ⟨m6,hn6,fun h' sb=>⟨.ref L,H5,IX.turned (t':=s6.toks) (it:=P.objs.size) (fun b o hb e=>(sb.2 b hb).trans e) I6.free (Nat.ne_of_gt I3.lt) (.inr I3.sz) (fun x c ec z=>?_) fun p hp z=>?_,rfl,qn⟩⟩
   ·obtain ⟨v0,qv⟩:=I3.cell x c ec
    exact absurd qv.lt (by rw [z]; exact Nat.lt_irrefl _)
   ·have z0:=Heap.lt_size (I3.pin p hp).1
    exact absurd z0 (by rw [z]; exact Nat.lt_irrefl _)
  ·refine thn (T.item Y rfl rfl rfl hc i [] s5 σ5 H5 Y.xe I5 (fpY fr5) st5 go) fun r s6 ⟨u,hr,h6⟩=>?_
   subst hr
   refine thn h6 fun _ s7 ⟨x,H7,I7,r7,y7,st7,fr7⟩=>?_
   have I7':=I7.pinned (fpY fr7) (T.obj _ _ st7)
   refine thn (hg _ _ _ _ _ _ _ _ s7 σ5 H7 x u _ I7' r7 (step x H7 y7)) fun _ s8 ⟨σ8,H8,I8,q8⟩=>?_
   refine thn (ht _ _ _ _ _ _ _ _ s8 σ8 H8 _ I8 q8) fun ok s9 ⟨H9,I9,q9⟩=>?_
   have again:∀ {sx:Shared} {Hx:Hp},Inv Y ([]++mC fp s7.heap) σ8 Hx sx→Nx σ8 Hx→∃ m,m < n∧∃ i σ' H',Inv Y [] σ' H' sx∧tn i sx.heap∧(∀ b∈fp,H' b=none)∧W i m σ' H':=fun {sx Hx} Ix nx=>by
    obtain ⟨m',hm,wx⟩:=hNx σ8 Hx nx
    refine ⟨m',hm,i+1,σ8,Hx,Ix.unpinned,T.keep _ _ _ st7 fun b hb o e=>(Ix.pin (b,o) (List.mem_append_right _ (List.mem_append_right _ (fj hb e)))).1,fun b hb=>?_,wx⟩
    obtain ⟨o,e,d⟩:=T.obj _ _ st7 b hb
    exact (Ix.pin (b,o) (List.mem_append_right _ (List.mem_append_right _ (fj hb e)))).2.1
   cases ok with
   | false =>
    rw [if_neg Bool.false_ne_true] at q9 ⊢
    exact again I9 q9
   | true =>
    rw [if_pos rfl] at q9 ⊢
    refine thn (he _ _ _ _ _ _ _ _ s9 σ8 H9 _ I9 q9) fun y s10 ⟨v10,H10,I10,r10,ys,hys,hz,q10⟩=>?_
    refine thn (cH (X:=Y) _ s10 σ8 H10 (.ref L) [v10] (.ref L) [y] (fun _ H'=>Nx σ8 H') I10 rfl (.cons r10 .nil) ⟨L,ys,v10,rfl,rfl,hys,hz,q10⟩) fun _ s11 ⟨_,H11,I11,_,q11⟩=>?_
    exact again I11 q11
 exact codeAny_compStart_list (loop _ rfl) (T.self X.A 0 _ _ _ stY (loop _ rfl))
end L2
namespace L2
open PySem PySem.Spec PyProof.Rows
theorem bF {J:It} {g:TG} {tc:TT} {te:TE} {R:Hp→Prop} {l:Addr} {σ0:St} {H0:Hp} (n:Nat) (Pv:Nat→St→Hp→Prop) (h0:Pv 0 σ0 H0) (hstop:∀ σ H,Pv n σ H→J.stop n H∧R H)
  (hgo:∀ i σ H,i < n→Pv i σ H→J.go i H∧∀ x H',J.yld i H x H'→g x σ H' fun σ2 H2=>tc σ2 H2 fun b H3=>if b=true then te σ2 H3 fun v H4=>∃ ys,H4 l=some (.lst ys)∧ys.length < sizeLine∧Pv (i+1) σ2 (upd H4 l (.lst (ys++[v]))) else Pv (i+1) σ2 H3) :
  ∃ W:Nat→Nat→St→Hp→Prop,(∃ m,W 0 m σ0 H0)∧∀ i m σ H,W i m σ H →
   (J.stop i H∧R H)∨(J.go i H∧∃ N:St→Hp→Prop,(∀ σ' H',N σ' H'→∃ m',m' < m∧W (i+1) m' σ' H') ∧
    ∀ x H',J.yld i H x H'→g x σ H' fun σ2 H2=>tc σ2 H2 fun b H3=>if b=true then te σ2 H3 fun v H4=>∃ ys,H4 l=some (.lst ys)∧ys.length < sizeLine∧N σ2 (upd H4 l (.lst (ys++[v]))) else N σ2 H3):=by
 refine ⟨fun i m σ H=>m=n - i∧i≤n∧Pv i σ H,⟨n,by simp,Nat.zero_le _,h0⟩,?_⟩
 rintro i m σ H ⟨rfl,hi,p⟩
 by_cases hlt:i < n
 ·obtain ⟨go,st⟩:=hgo i σ H hlt p
  exact .inr ⟨go,Pv (i+1),fun σ' H' p'=>⟨n - (i+1),by omega,rfl,hlt,p'⟩,st⟩
 ·have e:i=n:=by omega
  subst e
  exact .inl (hstop σ H p)
theorem jy {σ:St} {H:Hp} {F:Bool→Hp→Prop} (h:F true H):G6 σ H F:=h
theorem gN {i:Nat} {v:V} {σ:St} {H:Hp} {Q:St→Hp→Prop} (h:Q (σ.set i (some v)) H):cO i v σ H Q:=h
def Its (x:Str):It:=⟨fun i _=>i < x.cps.size,fun i H v H'=>H'=H∧∃ c,x.cps[i]?=some c∧v=.str ⟨#[c]⟩,fun i _=>x.cps.size≤i⟩
theorem Cj {P:Program} {w:World} {K:PySem.W.Frag} {tg:Expr} {it:Addr} {x:Str} {t:Tok} {ty:String} (hty:ty = "str_ascii_iterator"∨ty = "str_iterator") :
  Turn P w K tg (Its x) [it] it (fun i h=>i≤x.cps.size∧h.IsStrIter it ty x t i) where
 mem:=by simp
 obj:=fun i h st b hb=>by
  have e:b=it:=by simpa using hb
  subst e
  obtain ⟨_,o,e,c,d⟩:=st
  exact ⟨o,e,fun v z=>by rw [d] at z; cases z⟩
 keep:=fun i h h' st k=>by
  obtain ⟨hi,o,e,r⟩:=st
  exact ⟨hi,o,k it (by simp) o e,r⟩
 item:=by
  intro X hP hw hK hc i pins s σ H E I hf st hg
  subst hP hw hK
  obtain ⟨f0,f1,f2,f3,f4,f5⟩:=hf it (by simp)
  have hlt:i < x.cps.size:=hg
  obtain ⟨_,st⟩:=st
  have W:Walks X.prog X.w X.A it [it] [it] x.cps.size (SignAt x) (fun i h=>h.IsStrIter it ty x t i):=by
   rcases hty with rfl | rfl
   ·exact Walks.strAscii (I.ok.hd hc) it x t
   ·exact Walks.strWide (I.ok.hd hc) it x t
  refine W.item i s _ _ hlt st fun v h' tk hv st' kk=>?_
  obtain ⟨c,u,hc',rfl⟩:=hv
  have I1:Inv X pins σ H { s with heap:=h',toks:=tk }:=I.turned (fun b o hb e=>kk b o (by simpa using hb) e) f0 f1 f3 f4 f5
  obtain ⟨o,e,c2,d⟩:=id st'
  refine ⟨_,rfl,vY (s:={ s with heap:=h',toks:=tk }) (n:=ty) e c2 d ?_ ⟨.str ⟨#[c]⟩,H,I1,⟨u,rfl⟩,⟨rfl,c,hc',rfl⟩,⟨by omega,st'⟩,fun b hb=>(hf b hb).1⟩⟩
  rcases hty with rfl | rfl <;> decide
 done:=by
  intro X hP hw hK hc i pins s σ H E I hf st hg
  subst hP hw hK
  obtain ⟨f0,f1,f2,f3,f4,f5⟩:=hf it (by simp)
  have hge:x.cps.size≤i:=hg
  obtain ⟨hi,st⟩:=st
  have e:i=x.cps.size:=by omega
  subst e
  have W:Walks X.prog X.w X.A it [it] [it] x.cps.size (SignAt x) (fun i h=>h.IsStrIter it ty x t i):=by
   rcases hty with rfl | rfl
   ·exact Walks.strAscii (I.ok.hd hc) it x t
   ·exact Walks.strWide (I.ok.hd hc) it x t
  exact W.done s _ _ st fun h' tk kk=>⟨rfl,I.turned (fun b o hb e=>kk b o (by simpa using hb) e) f0 f1 f3 f4 f5⟩
 self:=fun A i s Q E st h=>by
  obtain ⟨_,st⟩:=st
  rcases hty with rfl | rfl
  ·exact wpAny_pyIter_striter_ascii st h
  ·exact wpAny_pyIter_striter_wide st h
def MJ (tl:TE):TI:=fun σ H R=>tl σ H fun v H1=>∃ x,v=.str x∧R (Its x) H1
theorem yp {X:Cx} {tg l:Expr} {tl:TE} (hl:PE X l tl):PI X tg l (MJ tl):=by
 intro pins s σ H R I h
 refine thn (hl pins s σ H _ I h) fun v s1 ⟨y,H1,I1,r1,q1⟩=>?_
 obtain ⟨x,e,q⟩:=q1
 subst e
 obtain ⟨t,rfl⟩:=r1
 refine wpAny_pyIter_strU ?_
 have hty:strIterType x = "str_ascii_iterator"∨strIterType x = "str_iterator":=by
  unfold strIterType
  split
  ·exact .inl rfl
  ·exact .inr rfl
 refine ⟨s1.heap.objs.size,[s1.heap.objs.size],_,_,H1,rfl,I1.kept (t':=s1.toks) fun b o e=>Heap.get?_push_of_some _ e,Cj (t:=t) hty,⟨Nat.zero_le _,_,Heap.get?_push_size _ rfl,rfl,rfl⟩,fun b hb=>?_,q⟩
 have e:b=s1.heap.objs.size:=by simpa using hb
 subst e
 exact I1.fpOk (Nat.le_refl _) (I1.hok.fresh (Nat.le_refl _))
theorem G3 {x:Str} {g:TG} {tb:TS} {D:Ends} {σ:St} {H:Hp} (Pv:Nat→St→Hp→Prop) (h0:Pv 0 σ H)
  (hs:∀ i c σ H,x.cps[i]?=some c→Pv i σ H→g (.str ⟨#[c]⟩) σ H fun σ2 H2=>tb { D with nx:=Pv (i+1),ct:=Pv (i+1),bk:=D.nx } σ2 H2) (hd:∀ σ H,Pv x.cps.size σ H→D.nx σ H) :
  ∃ W:Nat→Nat→St→Hp→Prop,(∃ m,W 0 m σ H)∧∀ i m σ H,W i m σ H →
   ((Its x).stop i H∧D.nx σ H)∨((Its x).go i H∧∃ N:St→Hp→Prop,(∀ σ' H',N σ' H'→∃ m',m' < m∧W (i+1) m' σ' H')∧∀ v H',(Its x).yld i H v H'→g v σ H' fun σ2 H2=>tb { D with nx:=N,ct:=N,bk:=D.nx } σ2 H2):=by
 refine ⟨fun i m σ H=>m=x.cps.size - i∧i≤x.cps.size∧Pv i σ H,⟨x.cps.size,by simp,Nat.zero_le _,h0⟩,?_⟩
 rintro i m σ H ⟨rfl,hi,p⟩
 by_cases hlt:i < x.cps.size
 ·refine .inr ⟨hlt,Pv (i+1),fun σ' H' p'=>⟨x.cps.size - (i+1),by omega,rfl,hlt,p'⟩,fun v H' y=>?_⟩
  obtain ⟨e,c,hc,rfl⟩:=y
  subst e
  exact hs i c σ _ hc p
 ·have e:i=x.cps.size:=by omega
  subst e
  exact .inl ⟨Nat.le_refl _,hd σ H p⟩
theorem Inv.turnedT {X:Cx} {pins:List (Addr × Obj)} {σ:St} {H:Hp} {s:Shared} {h':Heap} {t':Nat} {e it:Addr} {xs:List V} {its:List Value} (I:Inv X pins σ H s) (k:∀ b o,b≠e→b≠it→s.heap.get? b=some o→h'.get? b=some o)
  (fe:vd X pins H e) (fi:vd X pins H it) (he:∃ o,s.heap.get? e=some o) (hi:∃ o,s.heap.get? it=some o) (hv:Vals xs its) (hz:xs.length≤sizeLine)
  (hn:h'.get? s.heap.objs.size=some { cls:=.type "tuple",data:=.seq its.toArray }):Inv X pins σ (upd H s.heap.objs.size (.tup xs)) { s with heap:=h',toks:=t' }:=by
 have fr:H s.heap.objs.size=none:=I.fresh
 have nel:∀ b o,s.heap.get? b=some o→b≠s.heap.objs.size:=fun b o q=>Nat.ne_of_lt (Heap.lt_size q)
 refine I.step (g':=s.gens) (d':=s.drawn) (ch:=[e,it]) (fun b hb=>?_) (fun b o _ _ hc q _=>k b o (fun z=>hc (by simp [z])) (fun z=>hc (by simp [z])) q)
  (fun b o _ _ hc q _=>⟨o.slots,k b o (fun z=>hc (by simp [z])) (fun z=>hc (by simp [z])) q⟩) (fun b o _ q n=>by rw [aM (nel b o q)]; exact n)
  (fun b o hc q=>⟨o,k b o (fun z=>hc (by simp [z])) (fun z=>hc (by simp [z])) q⟩) (fun b ys q=>by rw [aM (aF q fr)]; exact q) (fun b o u q=>by rw [aM (aF q fr)]; exact q) (fun b ps q=>⟨#[],by rw [aM (aF q fr),q]; simp⟩)
  (fun m hm=>?_) (fun b u q=>?_) I.bare
 ·have hb':b=e∨b=it:=by simpa using hb
  rcases hb' with rfl | rfl
  ·exact ⟨fe.2.2.2.1,fe.2.1,fe.2.2.2.2.1,fe.2.2.2.2.2⟩
  ·exact ⟨fi.2.2.2.1,fi.2.1,fi.2.2.2.2.1,fi.2.2.2.2.2⟩
 ·obtain ⟨o,es,ep,ho,r⟩:=hm
  exact ⟨o,es,ep,k _ o (Ne.symm fe.2.1) (Ne.symm fi.2.1) ho,r⟩
 ·by_cases hb:b=s.heap.objs.size
  ·subst hb
   rw [ak] at q
   cases q
   exact ⟨hz,its,hv,_,hn,rfl,_,rfl⟩
  ·rw [aM hb] at q
   refine (I.hok b u q).stay (fun c v hc q'=>k c v ?_ ?_ q') (fun c q'=>by rw [aM (aF q' fr)]; exact q') fun c ys q'=>by rw [aM (aF q' fr)]; exact q'
   ·rintro rfl
    rcases hc with z | z
    ·rw [← z,fe.1] at q; cases q
    ·rw [fe.1] at z; cases z
   ·rintro rfl
    rcases hc with z | z
    ·rw [← z,fi.1] at q; cases q
    ·rw [fi.1] at z; cases z
theorem dh {X:Cx}:fK X (.builtin "isinstance") (fun xs H Q=>∃ x n t b,xs=[x,.ty n]∧uY X.K H x t∧PySem.W.kitOne X.K t (.type n)=some b∧Q (.bl b) H):=by
 intro pins s σ H xs us Q I r h
 obtain ⟨x,n,t,b,rfl,ty,e,q⟩:=h
 obtain ⟨u,v,rfl,ru,rv⟩:=vals2 r
 cases rv
 exact xZ I ru ty e fun tk=>⟨.bl b,H,I.tok _,rfl,q⟩
theorem tE {X:Cx}:MtR X "str.count" (fun x xs H Q=>∃ y c,x=.str y∧xs=[.str ⟨#[c]⟩]∧Q (.int (cnt c y.cps.toList)) H):=by
 intro pins s σ H x xs v us Q I rx r h
 obtain ⟨y,c,rfl,rfl,q⟩:=h
 obtain ⟨t,rfl⟩:=rx
 obtain ⟨u,rfl,t',rfl⟩:=vals1 r
 refine SC.count ?_
 rw [count_cnt]
 exact ⟨.int _,H,I.tok _,⟨_,rfl⟩,q⟩
theorem vg {ys:List Str}:∀ {us:List Value},Vals (ys.map V.str) us→StrsAre us ys:=by
 induction ys with
 | nil=>intro us r; rw [List.map_nil] at r; cases r; exact .nil
 | cons y ys ih =>
  intro us r
  rw [List.map_cons] at r
  cases r with
  | cons r1 r2 =>
   obtain ⟨t,e⟩:=r1
   subst e
   exact .cons y t (ih r2)
theorem yH {X:Cx}:MtR X "str.join" (fun x xs H Q=>∃ y l ys,x=.str y∧xs=[.ref l]∧SqL X.K H l (ys.map V.str)∧(ys.map (·.length)).sum+ys.length * y.length≤16777216∧Q (.str (Str.join y ys)) H):=by
 intro pins s σ H x xs v us Q I rx r h
 obtain ⟨y,l,ys,rfl,rfl,hq,hz,q⟩:=h
 obtain ⟨t,rfl⟩:=rx
 obtain ⟨u,rfl,ru⟩:=vals1 r
 cases ru
 obtain ⟨its,rv,p,_⟩:=I.list hq
 refine join_list p.isList (ys:=ys) (by simpa using vg rv) hz fun t' k=>?_
 have e:Txt.join y ys=Str.join y ys:=StrLaws.glued_eq_join y ys
 rw [e]
 exact ⟨.str _,H,I.tok _,⟨_,rfl⟩,q⟩
def K7 (i j:Int):Prop:=0 < j∧j < 2 ^ 64
theorem tM {X:Cx}:OpR X (binaryOp .FloorDiv) (rI K7 fun i j=>.int (i / j)):=opI fun i j _ _ _ _ _ hc q=>by
 have h1:(0:Int) < j:=hc.1
 have h2:j < 2 ^ 64:=hc.2
 refine floordiv_int (by omega) (by rw [Int.fdiv_eq_ediv_of_nonneg i (by omega)]; exact q) (.inl (PyProof.noPylong_of_log2 ?_))
 have h3:j.natAbs≠0:=by omega
 have h4:j.natAbs < 2 ^ 64:=by omega
 have h5:j.natAbs.log2 < 64:=(Nat.log2_lt h3).mpr h4
 omega
end L2
namespace L2
open PySem PySem.Spec PyProof.Rows
def jW (js:List (Option Nat)) (σ:St):St:=js.map fun j=>match j with | some j=>σ.getD j none | none=>none
def ju (N:List Str) (js:List (Option Nat)) (XN:List Str) (names:List (Str × NameKind)):Bool :=
 decide (N.length=js.length) && (N.zip js).all fun p=>match p.2 with | none=>true | some j=>decide (XN[j]?=some p.1) && decide (names.lookup p.1=some .free)
theorem zX {N:List Str} {js:List (Option Nat)} {XN:List Str} {names:List (Str × NameKind)} (h:ju N js XN names=true) (σ:St):(jW js σ).length=N.length:=by
 unfold ju at h
 rw [Bool.and_eq_true] at h
 unfold jW
 rw [List.length_map]
 exact (of_decide_eq_true h.1).symm
theorem Dc {N:List Str} {js:List (Option Nat)} {XN:List Str} {names:List (Str × NameKind)} (h:ju N js XN names=true) (σ:St) (i:Nat) (x:Str) (v:V) (h1:N[i]?=some x) (h2:(jW js σ)[i]?=some (some v)) :
  names.lookup x=some .free∧∃ j:Nat,XN[j]?=some x∧σ[j]?=some (some v):=by
 unfold ju at h
 rw [Bool.and_eq_true,List.all_eq_true] at h
 unfold jW at h2
 rw [List.getElem?_map] at h2
 cases e:js[i]? with
 | none=>rw [e] at h2; cases h2
 | some j =>
  rw [e] at h2
  cases j with
  | none=>cases h2
  | some j =>
   have h3:σ.getD j none=some v:=Option.some.inj h2
   have hm:(x,some j)∈N.zip js:=by
    refine List.mem_of_getElem? (i:=i) ?_
    rw [List.getElem?_zip_eq_some]
    exact ⟨h1,e⟩
   have q:=h.2 _ hm
   simp only [Bool.and_eq_true,decide_eq_true_eq] at q
   refine ⟨q.2,j,q.1,?_⟩
   rw [List.getD_eq_getElem?_getD] at h3
   cases e2:σ[j]? with
   | none=>rw [e2] at h3; cases h3
   | some o=>rw [e2] at h3; exact congrArg some h3
theorem aZ {X:Cx} {elt tg iter:Expr} {ifs:List Expr} {scope:Scope} {pos:Pos} {wi:TI} {g:TG} {tc:TT} {te:TE} (XN:List Str) (sc:Scope) (N:List Str) (js:List (Option Nat)) (hXN:X.N=XN) (hsc:X.env.scope=sc) (hc:X.calm=true) (hi:PI X tg iter wi)
  (hkind:scope.kind=.function) (hchk:ju N js XN scope.names=true) (hcell:∀ y∈scope.names,y.2≠.cell) (hfree:∀ y∈scope.names,y.2=.free→sc.names.lookup y.1=some .cell∨sc.names.lookup y.1=some .free)
  (hnames:∀ y∈scope.names,y.2=.local→scope.names.lookup y.1=some .local)
  (hg:∀ cl C s H ex pn E,PG (cJ X scope N cl C s H ex pn E) tg g) (ht:∀ cl C s H ex pn E,G5 (cJ X scope N cl C s H ex pn E) ifs tc) (he:∀ cl C s H ex pn E,PE (cJ X scope N cl C s H ex pn E) elt te)
  (hs:∀ x,foldedSetIterable iter X.env x=pure x:=by intro _; rfl) :
  PE X (.ListComp elt [⟨tg,iter,ifs,0⟩] scope pos) (Al wi g tc te (jW js)):=by
 subst hXN
 subst hsc
 exact Ga N (jW js) hc hi hkind hcell hfree hnames (fun σ _=>zX hchk σ) (fun σ i x v _ h1 h2=>Dc hchk σ i x v h1 h2) hg ht he hs
theorem Hy (K:PySem.W.Frag) {T U:String} {b:Bool} (h:(if (Value.type T == Value.type U)=true then some true else (if PySem.W.kitMeta U=true then (fastBuiltinMro T).map (·.contains (.type U)) else none))=some b) :
  PySem.W.kitOne K (.type T) (.type U)=some b:=h
theorem yL {α:Type} {xs:List α} {r:Int} (h0:0≤r) (h1:r < xs.length):∃ v,atI xs r=some v∧v∈xs:=by
 have hk:r.toNat < xs.length:=by omega
 have ek:r=((r.toNat:Nat):Int):=by omega
 refine ⟨xs[r.toNat],?_,List.getElem_mem hk⟩
 have q:atI xs ((r.toNat:Nat):Int)=some xs[r.toNat]:=bw (List.getElem?_eq_getElem hk)
 rw [← ek] at q
 exact q
theorem yU (ns:List Int) (lo hi:Option Int):∃ ms:List Int,jl (ns.map V.int) lo hi=ms.map V.int∧ms.length≤ns.length:=by
 refine ⟨(ns.drop (HT.sIx ns.length 0 lo)).take (HT.sIx ns.length ns.length hi - HT.sIx ns.length 0 lo),?_,?_⟩
 ·unfold jl
  rw [List.length_map,List.map_take,List.map_drop]
 ·rw [List.length_take,List.length_drop]
  omega
theorem aq {H:Hp} {p:Addr} (h:H p=none) (o:HO):Same H (upd H p o):=fun b u q=>by rw [aM (aF q h)]; exact q
theorem uZ {ns:List Int} {i:Nat} {y:V} (h:(ns.map V.int)[i]?=some y):∃ z,y=V.int z:=by
 rw [List.getElem?_map] at h
 cases e:ns[i]? with
 | none=>rw [e] at h; cases h
 | some z=>rw [e] at h; exact ⟨z,(Option.some.inj h).symm⟩
theorem small {n:Nat} (h:n≤1000):n≤sizeLine:=Nat.le_of_lt (aH h)
theorem smn (n:Nat) (h:n≤1000:=by decide):n≤sizeLine:=small h
theorem cg:(1000000:Nat)≤sizeLine:=by rw [sizeLine_eq]; decide
structure Pot (H0:Hp) (p:Addr) (H:Hp):Prop where
 at_:∃ a b:Int,H p=some (.lst [.int a,.int b])
 old:∀ c o,H0 c=some o→c≠p→H c=some o
theorem Pot.turn {H0 H:Hp} {p:Addr} {a b:Int} (P:Pot H0 p H):Pot H0 p (upd H p (.lst [.int a,.int b])) :=
 ⟨⟨a,b,ak⟩,fun c u q hc=>by rw [aM hc]; exact P.old c u q hc⟩
end L2
namespace L2
open PySem PySem.Spec PyProof.Rows
theorem Pot.apart {H0 H:Hp} {p l:Addr} (P:Pot H0 p H) (h:H l=none):l≠p:=by
 obtain ⟨a,b,e⟩:=P.at_
 exact (aF e h).symm
theorem qx {y:Str} (hy:y=⟨#[]⟩) (cs:List Nat) (h:cs.length≤1000000):((cs.map fun c=>(⟨#[c]⟩:Str)).map (·.length)).sum+(cs.map fun c=>(⟨#[c]⟩:Str)).length * y.length≤16777216:=by
 subst hy
 have e:((cs.map fun c=>(⟨#[c]⟩:Str)).map (·.length)).sum=cs.length:=by
  clear h
  induction cs with
  | nil=>rfl
  | cons c r ih =>
   rw [List.map_cons,List.map_cons,List.sum_cons,ih,List.length_cons]
   show 1+r.length=r.length+1
   omega
 rw [e]
 show cs.length+_ * 0≤_
 omega
def sz:List Nat→Int
 | []=>0
 | c :: r=>(if c=32∨c=10 then 0 else 1)+sz r
theorem pD (a b:List Nat):sz (a++b)=sz a+sz b:=by
 induction a with
 | nil=>show sz b=0+sz b; omega
 | cons c r ih=>show (if c=32∨c=10 then (0:Int) else 1)+sz (r++b)=(if c=32∨c=10 then (0:Int) else 1)+sz r+sz b; rw [ih]; omega
theorem Ja (l:List Nat):(l.length:Int) - cnt 32 l - cnt 10 l=sz l:=by
 induction l with
 | nil=>rfl
 | cons c r ih =>
  rw [cnt_cons,cnt_cons,List.length_cons]
  show _=(if c=32∨c=10 then (0:Int) else 1)+sz r
  by_cases h1:c=32
  ·subst h1
   simp only [if_true,true_or]
   rw [if_neg (by decide)]
   omega
  ·by_cases h2:c=10
   ·subst h2
    simp only [or_true,if_true]
    rw [if_neg (by decide)]
    omega
   ·rw [if_neg h1,if_neg h2,if_neg (by simp [h1,h2])]
    omega
theorem z7 (l:List Nat) (c:Nat):sz (l++[c])=sz l+(if c=32∨c=10 then 0 else 1):=by
 rw [pD]
 show sz l+((if c=32∨c=10 then (0:Int) else 1)+0)=_
 omega
end L2
namespace L2
open PySem PySem.Spec PyProof.Rows
theorem Dz {bs:List Bool} {its:List Value} (r:Vals (bs.map V.bl) its) {i:Nat} {v:Value} (h:its.toArray[i]?=some v):v=.bool (bs.getD i true):=by
 have h':its[i]?=some v:=by simpa using h
 have hl:=r.length
 have hi:i < its.length:=(List.getElem?_eq_some_iff.mp h').1
 have hb:i < bs.length:=by rw [List.length_map] at hl; omega
 obtain ⟨u,hu,ru⟩:=r.get (i:=i) (x:=V.bl bs[i]) (by rw [List.getElem?_map,List.getElem?_eq_getElem hb]; rfl)
 rw [h'] at hu
 cases hu
 have e:bs.getD i true=bs[i]:=by rw [List.getD_eq_getElem?_getD,List.getElem?_eq_getElem hb]; rfl
 rw [e]
 exact ru
theorem all_range (bs:List Bool):(List.range bs.length).all (fun i=>bs.getD i true)=bs.all id:=by
 rw [Bool.eq_iff_iff,List.all_eq_true,List.all_eq_true]
 constructor
 ·intro h b hb
  obtain ⟨i,hi,e⟩:=List.getElem_of_mem hb
  have q:=h i (List.mem_range.mpr hi)
  rw [List.getD_eq_getElem?_getD,List.getElem?_eq_getElem hi] at q
  rw [← e]
  exact q
 ·intro h i hi
  have hi':=List.mem_range.mp hi
  rw [List.getD_eq_getElem?_getD,List.getElem?_eq_getElem hi']
  exact h _ (List.getElem_mem hi')
theorem jq {X:Cx} (hc:X.calm=true):fK X (.builtin "all") (fun xs H Q=>∃ (l:Addr) (bs:List Bool),xs=[.ref l]∧SqL X.K H l (bs.map V.bl)∧Q (.bl (bs.all id)) H):=by
 intro pins s σ H xs us Q I r h
 obtain ⟨l,bs,rfl,hq,q⟩:=h
 obtain ⟨u,rfl,ru⟩:=vals1 r
 cases ru
 obtain ⟨its,rv,p,hz⟩:=I.list hq
 have hd:X.A.in1.handled=none:=I.ok.hd hc
 have hl:=rv.length
 refine call_all_walk (wpAny_pyIter_list p.isList ?_)
 obtain ⟨o,n,eo,_⟩:=id p
 have hne:l≠s.heap.objs.size:=Nat.ne_of_lt (Heap.lt_size eo)
 refine ⟨s.heap.objs.size,_,_,_,_,_,fun i=>bs.getD i true,rfl,Walks.list hd s.heap.objs.size l hne its.toArray,⟨⟨_,Heap.get?_push_size _ rfl,rfl,rfl⟩,p.isList.push _⟩,fun i v s' Q' E' hv hQ'=>?_,fun h' tk hk=>?_⟩
 ·rw [Dz rv hv]
  exact wpAny_truthy_bool hQ'
 ·have e:its.toArray.size=bs.length:=by rw [List.size_toArray,← hl,List.length_map]
  rw [e,all_range]
  have I1:Inv X pins σ H { s with heap:=s.heap.push { cls:=.type "list_iterator",data:=.fields #[.ref l,.int 0 0] } }:=I.kept (t':=s.toks) fun b o q=>Heap.get?_push_of_some _ q
  obtain ⟨f0,f1,f2,f3,f4,f5⟩:=I.fpOk (b:=s.heap.objs.size) (Nat.le_refl _) I.fresh
  exact ⟨.bl _,H,I1.turned (it:=s.heap.objs.size) (fun b o hb e=>hk b o (by simpa using hb) e) f0 f1 f3 f4 f5,rfl,q⟩
theorem iM {X:Cx}:OpR X (compareOp .IsNot) (fun x y H Q=>∃ a b,x=.bl a∧y=.bl b∧Q (.bl (!(a == b))) H):=by
 intro pins s σ H x y v u Q I rx ry h
 obtain ⟨a,b,rfl,rfl,q⟩:=h
 cases rx
 cases ry
 refine wpAny_isNot_plain rfl ?_
 have e:(Value.bool a == Value.bool b)=(a == b):=by cases a <;> cases b <;> rfl
 rw [e]
 exact ⟨.bl _,H,I,rfl,q⟩
def isNm (x:Str):Bool:=decide (1≤x.length) && decide (x.length≤8) && x.cps.toList.all fun c=>decide (97≤c∧c≤122)
end L2
namespace ZT
open PySem
open Sem (wp)
section
variable {prog:Program} {w:World} {A:Around} {E:Value→Shared→Prop} {s:Shared}
theorem tG {it t:Addr} {i:Nat} {its:Array Value} {x:Value} {Q:Value→Shared→Prop} (ti:s.heap.IsTupleIter it t i) (tt:s.heap.IsTuple t its) (tx:its[i]?=some x)
  (k:∀ g,g.IsTupleIter it t (i+1)→Heap.SameBut it s.heap g→Q x { s with heap:=g }):wpAny (model prog w) A (Builtin.SmallTypes.nextOf (.ref it)) Q E s:=by
 obtain ⟨o,eo,ec,ed⟩:=id ti
 obtain ⟨ol,el,_,nl,dl⟩:=tt
 unfold Builtin.SmallTypes.nextOf
 refine wpAny_bind (wpAny_callSpecial?_slot (name:=Str.ofString "__next__") ti.typeIs F.slot_tuple_iterator_next (wpAny_call_entry F.slot_tuple_iterator_next ti.typeIs F.entry_tuple_iterator_next ?_ (F.args_tuple_iterator_next_1 _)))
 show wpAny _ _ (field (.ref it) 0 >>= _) _ _ s
 refine wpAny_bind (wpAny_field eo ed (x:=.ref t) rfl ?_)
 show wpAny _ _ (if (Value.ref t == Value.none)=true then _ else _) _ _ s
 rw [if_neg (by intro z; cases z)]
 show wpAny _ _ (field (.ref it) 1 >>= _) _ _ s
 refine wpAny_bind (wpAny_field eo ed (x:=.int i 0) rfl ?_)
 show wpAny _ _ (seqItems? (.ref t) >>= _) _ _ s
 refine wpAny_bind (wpAny_seqItems el dl ?_)
 simp only [Int.toNat_natCast,tx]
 refine wpAny_bind (wpAny_setField eo ed (by simp) (wpAny_pure ⟨x,rfl,wpAny_pure (k _ ?_ (Heap.SameBut.update ..))⟩))
 refine ⟨_,Heap.get?_update_self _ eo (Obj.isFreed_of_fields (Obj.data_mapFields ed _)),(Obj.cls_mapFields ..).trans ec,?_⟩
 rw [Obj.data_mapFields ed]
 simp [rawInt]
theorem sE {it t:Addr} {i:Nat} {its:Array Value} {Q:Value→Shared→Prop} (hd:A.handled=none) (ti:s.heap.IsTupleIter it t i) (tt:s.heap.IsTuple t its) (tx:its[i]?=none)
  (k:∀ g e,Heap.ExtBut it s.heap g→(∃ o,g.get? e=some o∧o.cls=.type "StopIteration")→E (.ref e) { s with heap:=g }):wpAny (model prog w) A (Builtin.SmallTypes.nextOf (.ref it)) Q E s:=by
 obtain ⟨o,eo,ec,ed⟩:=id ti
 obtain ⟨ol,el,_,nl,dl⟩:=tt
 unfold Builtin.SmallTypes.nextOf
 refine wpAny_bind (wpAny_callSpecial?_slot (name:=Str.ofString "__next__") ti.typeIs F.slot_tuple_iterator_next (wpAny_call_entry F.slot_tuple_iterator_next ti.typeIs F.entry_tuple_iterator_next ?_ (F.args_tuple_iterator_next_1 _)))
 show wpAny _ _ (field (.ref it) 0 >>= _) _ _ s
 refine wpAny_bind (wpAny_field eo ed (x:=.ref t) rfl ?_)
 show wpAny _ _ (if (Value.ref t == Value.none)=true then _ else _) _ _ s
 rw [if_neg (by intro z; cases z)]
 show wpAny _ _ (field (.ref it) 1 >>= _) _ _ s
 refine wpAny_bind (wpAny_field eo ed (x:=.int i 0) rfl ?_)
 show wpAny _ _ (seqItems? (.ref t) >>= _) _ _ s
 refine wpAny_bind (wpAny_seqItems el dl ?_)
 simp only [Int.toNat_natCast,tx]
 refine wpAny_bind (wpAny_rule (wpAny_bind (wpAny_setField eo ed (by simp) ?_)))
 show wpAny _ _ (newExc (.type "StopIteration") [] >>= _) _ _ _
 refine wpAny_bind ?_
 simp only [newExc,newTuple]
 refine wpAny_bind (wpAny_newObj_type ?_ (by size_fits))
 refine wpAny_bind (m:=firstArgMember _ _) (wpAny_of_eq (a:=Value.none) (by first | rfl | (simp only [firstArgMember]; rfl)) ?_)
 refine wpAny_newObj_type ?_ (by size_fits)
 simp only [raiseNew]
 refine wpAny_bind (wpAny_handled ?_)
 first | rw [show A.in1.handled=none from hd] | rw [hd]
 refine wpAny_bind (wpAny_pure (wpAny_throw ?_))
 exact k _ _ (((Heap.SameBut.update ..).extBut.push _).push _) ⟨_,Heap.get?_push_size _ rfl,rfl⟩
structure Apart (z TI TO i1 i2 t1 t2:Addr):Prop where
 a1:TI≠z
 a2:TO≠z
 a3:i1≠z
 a4:i2≠z
 b1:TI≠TO
 b2:TI≠i1
 b3:TI≠i2
 b4:TO≠i1
 b5:TO≠i2
 b6:i1≠i2
 c1:t1≠z
 c2:t1≠TO
 c3:t1≠i1
 c4:t1≠i2
 d1:t2≠z
 d2:t2≠TO
 d3:t2≠i1
 d4:t2≠i2
end
abbrev zh1 (h:Heap) (t1:Addr):Heap:=h.push { cls:=.type "tuple_iterator",data:=.fields #[.ref t1,.int 0 0] }
end ZT
namespace L2
open PySem PySem.Spec PyProof.Rows
section
variable {X:Cx} {pins:List (Addr × Obj)} {σ:St} {H:Hp} {s:Shared} {h':Heap} {t':Nat} {ch:List Addr}
end
end L2
namespace M01
open PySem
def isW (c:Nat):Bool:=decide (97≤c∧c≤122) || decide (65≤c∧c≤90) || decide (48≤c∧c≤57)
abbrev S:=List (List Nat) × List Nat
def stp (st:S) (c:Nat):S:=if isW c=true then (st.1,st.2++[c]) else (if st.2=[] then st else (st.1++[st.2],[]))
def scn (l:List Nat):S:=l.foldl stp ([],[])
def fn (st:S):List (List Nat):=if st.2=[] then st.1 else st.1++[st.2]
def wds (l:List Nat):List (List Nat):=fn (scn l)
theorem uE (l:List Nat) (c:Nat):scn (l++[c])=stp (scn l) c:=by
 unfold scn
 rw [List.foldl_append]
 rfl
def cmp (st:S) (rest:List Nat):List (List Nat):=if st.2=[] then st.1 else st.1++[st.2++rest.takeWhile isW]
def bl (c:Nat):Nat:=if isW c=true then c else 32
theorem JN (c:Nat):Unicode.isSpace (bl c)=!isW c:=by
 unfold bl
 by_cases h:isW c=true
 ·rw [if_pos h,h]
  have hc:c < 123:=by
   unfold isW at h
   simp only [Bool.or_eq_true,decide_eq_true_eq] at h
   omega
  have all:∀ d,d < 123→isW d=true→Unicode.isSpace d=false:=by decide +kernel
  rw [all c hc h]
  rfl
 ·have h':isW c=false:=by simpa using h
  rw [if_neg h,h']
  decide +kernel
theorem str_len (l:List Nat):(⟨l.toArray⟩:Str).length=l.length:=by simp [Str.length]
theorem qz:∀ (l:List Nat) (st:KWd.St) (q:S),st.1=q.1.map (fun r=>(⟨r.toArray⟩:Str))→st.2=⟨q.2.toArray⟩ →
  ((l.map bl).foldl KWd.step st).1=((l.foldl stp q).1).map (fun r=>(⟨r.toArray⟩:Str))∧((l.map bl).foldl KWd.step st).2=⟨(l.foldl stp q).2.toArray⟩
 | [],st,q,h1,h2=>⟨h1,h2⟩
 | c :: r,st,q,h1,h2=>by
  rw [List.map_cons,List.foldl_cons,List.foldl_cons]
  refine qz r _ _ ?_ ?_
  ·unfold KWd.step stp
   rw [JN]
   by_cases h:isW c=true
   ·rw [h]
    simp only [Bool.not_true,Bool.false_eq_true,if_false,if_true]
    exact h1
   ·have h':isW c=false:=by simpa using h
    rw [h']
    simp only [Bool.not_false,if_true,Bool.false_eq_true,if_false]
    by_cases e:q.2=[]
    ·rw [if_pos (by rw [h2,e]; rfl),if_pos e]
     exact h1
    ·have hl:¬ st.2.length=0:=by
      rw [h2,str_len]
      intro z
      exact e (List.length_eq_zero_iff.mp z)
     rw [if_neg hl,if_neg e]
     show st.1++[st.2]=(q.1++[q.2]).map _
     rw [List.map_append,h1,h2]
     rfl
  ·unfold KWd.step stp
   rw [JN]
   by_cases h:isW c=true
   ·rw [h]
    simp only [Bool.not_true,Bool.false_eq_true,if_false,if_true]
    rw [h2]
    show Str.mk (q.2.toArray ++ #[bl c])=_
    unfold bl
    rw [if_pos h]
    congr 1
    simp
   ·have h':isW c=false:=by simpa using h
    rw [h']
    simp only [Bool.not_false,if_true,Bool.false_eq_true,if_false]
    by_cases e:q.2=[]
    ·rw [if_pos (by rw [h2,e]; rfl),if_pos e]
     exact h2
    ·have hl:¬ st.2.length=0:=by
      rw [h2,str_len]
      intro z
      exact e (List.length_eq_zero_iff.mp z)
     rw [if_neg hl,if_neg e]
     rfl
theorem wY (l:List Nat):Txt.words ⟨(l.map bl).toArray⟩=(wds l).map (fun r=>(⟨r.toArray⟩:Str)):=by
 rw [KWd.words_scan]
 obtain ⟨h1,h2⟩:=qz l ([],Str.empty) ([],[]) rfl rfl
 have e:KWd.scan ⟨(l.map bl).toArray⟩=(l.map bl).foldl KWd.step ([],Str.empty):=by
  unfold KWd.scan
  simp
 unfold KWd.fin wds fn scn
 rw [e,h1,h2,str_len]
 by_cases z:(l.foldl stp ([],[])).2=[]
 ·rw [if_pos (by rw [z]; rfl),if_pos z]
 ·rw [if_neg (fun q=>z (List.length_eq_zero_iff.mp q)),if_neg z,List.map_append]
  rfl
theorem sW:∀ (l:List Nat) (q:S),(l.foldl stp q).1.length+(l.foldl stp q).2.length≤q.1.length+q.2.length+l.length
 | [],q=>by simp
 | c :: r,q=>by
  rw [List.foldl_cons]
  have ih:=sW r (stp q c)
  have h:(stp q c).1.length+(stp q c).2.length≤q.1.length+q.2.length+1:=by
   unfold stp
   by_cases h:isW c=true
   ·rw [if_pos h]
    simp only [List.length_append,List.length_cons,List.length_nil]
    omega
   ·rw [if_neg h]
    by_cases e:q.2=[]
    ·rw [if_pos e]; omega
    ·rw [if_neg e]
     have:0 < q.2.length:=List.length_pos_iff.mpr e
     simp only [List.length_append,List.length_cons,List.length_nil]
     omega
  rw [List.length_cons]
  omega
theorem Ed (l:List Nat):(wds l).length≤l.length:=by
 have h:=sW l ([],[])
 simp only [List.length_nil,Nat.zero_add] at h
 unfold wds fn
 show (if (l.foldl stp ([],[])).2=[] then _ else _:List (List Nat)).length≤_
 by_cases e:(l.foldl stp ([],[])).2=[]
 ·rw [if_pos e]
  show (l.foldl stp ([],[])).1.length≤_
  omega
 ·rw [if_neg e,List.length_append]
  have:0 < (l.foldl stp ([],[])).2.length:=List.length_pos_iff.mpr e
  show (l.foldl stp ([],[])).1.length+1≤_
  omega
end M01
namespace L2
open PySem PySem.Spec PyProof.Rows
theorem pL {v:Value} {o:Option Int} (h:IsPart v o):∃ q:Option (Int × Tok),v=partValue q∧o=q.map (·.1):=by
 cases h with
 | none=>exact ⟨none,rfl,rfl⟩
 | int i t=>exact ⟨some (i,t),rfl,rfl⟩
def Nj:V→Option Int→Option Int→Hp→VK→Prop:=fun x lo hi H Q=>∃ y:Str,x=.str y∧y.length≤sizeLine∧Q (.str (Txt.slice y lo hi)) H
theorem CW {X:Cx}:SlR X Nj:=by
 intro pins s σ H x v vl vu lo hi sl Q I rx hs pl pu h
 obtain ⟨y,rfl,hz,q⟩:=h
 obtain ⟨t,rfl⟩:=rx
 obtain ⟨ql,rfl,rfl⟩:=pL pl
 obtain ⟨qu,rfl,rfl⟩:=pL pu
 refine ⟨"str",_,F.slot_str_getitem.lookup,typeIs_str _ _ _,?_⟩
 refine wpAny_getItem_str_slice (l:=ql) (u:=qu) (st:=none) hs rfl ?_
 exact post_val_or_str ⟨Nat.le_trans (Txt.slice_le y _ _) hz,fun t' k=>⟨.str _,H,I.tok _,⟨_,rfl⟩,q⟩⟩
theorem uU (l:List (Str × Tok)):Vals ((l.map (·.1)).map V.str) (strValues l):=by
 induction l with
 | nil=>exact .nil
 | cons p r ih=>exact .cons ⟨p.2,rfl⟩ ih
theorem Bv {X:Cx}:MtR X "str.split" (fun x xs H Q=>∃ y:Str,x=.str y∧xs=[]∧y.length≤100000∧∀ l,H l=none→Q (.ref l) (upd H l (.lst ((Txt.words y).map V.str)))):=by
 intro pins s σ H x xs v us Q I rx r h
 obtain ⟨y,rfl,rfl,hz,q⟩:=h
 obtain ⟨t,rfl⟩:=rx
 cases r
 have hb:=cg
 have e1:=(StrLaws.sw_weight y).1
 have e2:=StrLaws.len_le_wsum (Builtin.Str.spaceWords y (y.length+1))
 have hn:(Builtin.Str.spaceWords y (y.length+1)).length≤sizeLine:=by omega
 refine call_meets F.slot_str_split (typeIs_str _ _ _) F.entry_str_split (F.args_str_split_1 _) (meets_str_split_space y t (by omega) hn) ?_
 have fin:∀ (l:List (Str × Tok)) (tk:Nat),l.map (·.1)=Txt.words y→l.length≤sizeLine→EP X pins σ Q (.ref s.heap.objs.size) { s with heap:=s.heap.push { cls:=.type "list",data:=.seq (strValues l).toArray },toks:=tk }:=fun l tk e hl=>by
  refine ⟨.ref s.heap.objs.size,_,I.lnew (its:=strValues l) (ys:=(l.map (·.1)).map V.str) (uU l) (by rw [List.length_map,List.length_map]; exact hl),rfl,?_⟩
  rw [e]
  exact q _ I.fresh
 cases hw:Builtin.Str.spaceWords y (y.length+1) == [(0,y.length)]
 ·simp only [Bool.false_eq_true,if_false]
  rw [strsFrom_eq]
  have et:=numbered_texts s.toks (wordsOf y)
  refine fin (numbered s.toks (wordsOf y)) _ (et.trans (if_neg (ne_true_of_eq_false hw)).symm) ?_
  have el:=congrArg List.length et
  rw [List.length_map] at el
  rw [el]
  unfold wordsOf
  rw [List.length_map]
  exact hn
 ·simp only [if_true]
  exact fin [(y,t)] s.toks (if_pos hw).symm (by show 1≤sizeLine; omega)
theorem Et (a c:Nat):decide (([c]:List Nat) < [a])=decide (c < a):=by
 rw [Bool.eq_iff_iff]
 simp only [decide_eq_true_eq]
 constructor
 ·intro h
  cases h with
  | cons h=>cases h
  | rel h=>exact h
 ·intro h
  exact List.Lex.rel h
def Bt:R2:=fun x y H Q=>∃ a c:Nat,x=.str ⟨#[a]⟩∧y=.str ⟨#[c]⟩∧Q (.bl (decide (a≤c))) H
theorem mO {X:Cx}:OpR X (compareOp .LtE) Bt:=by
 intro pins s σ H x y v u Q I rx ry h
 obtain ⟨a,c,rfl,rfl,q⟩:=h
 obtain ⟨t,rfl⟩:=rx
 obtain ⟨t',rfl⟩:=ry
 refine PySem.P.le_str ?_
 have e:(!decide (([c]:List Nat) < [a]))=decide (a≤c):=by
  rw [Et,Bool.eq_iff_iff]
  simp
 show EP X pins σ Q (.bool (!decide (([c]:List Nat) < [a]))) s
 rw [e]
 exact ⟨.bl _,H,I,rfl,q⟩
theorem jC {i a b c:Nat} {x z:Str} {σ:St} {H:Hp} {Q:VK} (hx:x=⟨#[a]⟩) (hz:z=⟨#[b]⟩) (h0:σ[i]?=some (some (.str ⟨#[c]⟩))) (q:Q (.bl (decide (a≤c∧c≤b))) H) :
  pB Bt Bt (tC (.str x)) (vo i) (tC (.str z)) σ H Q:=by
 subst hx
 subst hz
 refine ⟨_,h0,a,c,rfl,rfl,_,rfl,?_⟩
 refine dR (fun h=>?_) (fun h=>?_)
 ·refine ⟨c,b,rfl,rfl,?_⟩
  have h':a≤c:=of_decide_eq_true h
  have e:decide (a≤c∧c≤b)=decide (c≤b):=decide_eq_decide.mpr ⟨fun z=>z.2,fun z=>⟨h',z⟩⟩
  rw [← e]
  exact q
 ·have e:decide (a≤c∧c≤b)=false:=decide_eq_false fun z=>h (decide_eq_true z.1)
  rw [e] at q
  exact q
end L2
namespace L2
open PySem PySem.Spec PyProof.Rows
structure Cal (P:Program) (w:World) (K:PySem.W.Frag) (mg:Str→Option Value) (base:Heap) (x:Str) (k:Nat) (ps:List Str) (sp:Sp):Prop where
 ex:∃ (f:Addr) (fd:FuncData),n8 P w K mg base CX0 k f fd ps sp∧Binds K fd ps []∧PySem.W.keepIn K (.ref f)=true∧mg x=some (.ref f)
structure Has (K:PySem.W.Frag) (mg:Str→Option Value) (x:Str) (st:Stmt) (ps:List Str):Prop where
 ex:∃ (f:Addr) (fd:FuncData),Fun K x x st f fd∧Binds K fd ps []∧mg x=some (.ref f)
section
variable {P:Program} {w:World} {K:PySem.W.Frag} {mg:Str→Option Value} {base:Heap}
theorem Has.cal {x:Str} {st:Stmt} {ps:List Str} {k:Nat} {sp:Sp} (h:Has K mg x st ps) (ok:∀ (f:Addr) (fd:FuncData),Fun K x x st f fd→mg x=some (.ref f)→Binds K fd ps []→n8 P w K mg base CX0 k f fd ps sp):Cal P w K mg base x k ps sp:=by
 obtain ⟨f,fd,F,b,m⟩:=h.ex
 exact ⟨f,fd,ok f fd F m b,b,F.kp,m⟩
theorem Has.mk' {x:Str} {st:Stmt} {N ps:List Str} {k:Nat} {sp:Sp} (h:Has K mg x st ps) (S:aP N ps (au st)) (len:∀ vs H Q E,sp vs H Q E→vs.length=ps.length)
  (hbody:∀ (f:Addr) (cdv:Value) (A:Around) (outer:List Env) (s:Shared) (H:Hp) (vs:List V) (Q:VK) (E:XK),j7 k (A.deeper (envOfC x (au st) s.heap.objs.size f cdv))→sp vs H Q E →
   ∃ t,PSs (Fz CX0 P w K mg base N x (au st) f cdv A outer s H E).nox (aN st) t∧t { nx:=fun _ H'=>Q .non H',rt:=Q } (start N vs) H):Cal P w K mg base x (k+1) ps sp :=
 h.cal fun f fd F _ _=>F.ok S len (hbody f)
end
theorem aK {X:Cx} {x:Str} {k n:Nat} {ps:List Str} {sp:Sp} {e:Expr} {es:List Expr} {t:TA} {p pos:Pos} (C:Cal X.prog X.w X.K X.mg X.base x k ps sp) (hr:j7 n X.A) (hk:k≤n) (hg:Gl X x) (ha:PA X (e :: es) t)
  (hdb:(x == ("__debug__" : Str))=false:=by decide) (he:starEach (e :: es) X.env=(false,eval e X.env) :: starEach es X.env:=by rfl) (hpl:(backTo pos (starEach es X.env)).any (·.1)=false:=by rfl) :
  PE X (.Call (.Name x p) (e :: es) [] pos) (Jc sp [] E0 t):=by
 obtain ⟨f,fd,F,b,kp,m⟩:=C.ex
 exact Aa F (hr.mono hk) hg m kp b .nil Hr ha hdb he hpl
theorem tW {X:Cx}:MtR X "str.lower" (fun x xs H Q=>∃ r:List Nat,x=.str ⟨r.toArray⟩∧xs=[]∧(∀ c∈r,c < 128)∧r.length≤100000∧Q (.str ⟨(r.map lo1).toArray⟩) H):=by
 intro pins s σ H x xs v us Q I rx r h
 obtain ⟨l,rfl,rfl,hc,hl,q⟩:=h
 obtain ⟨t,rfl⟩:=rx
 cases r
 refine SCL.lower (by show l.toArray.size≤_; rw [List.size_toArray]; omega) fun _=>?_
 rw [lower_ascii (x:=⟨l.toArray⟩) (by simpa using hc)]
 have e:(⟨l.toArray.map lo1⟩:Str)=⟨(l.map lo1).toArray⟩:=by rw [List.map_toArray]
 rw [e]
 exact ⟨.str _,H,I.tok _,⟨_,rfl⟩,q⟩
inductive D where
 | non | bl (b:Bool) | int (i:Int) | str (x:Str) | tup (ds:List D)
mutual
def Den (H:Hp):V→D→Prop
 | v,.non=>v=.non
 | v,.bl b=>v=.bl b
 | v,.int i=>v=.int i
 | v,.str x=>v=.str x
 | v,.tup ds=>∃ (p:Addr) (vs:List V),v=.ref p∧H p=some (.tup vs)∧cQ H vs ds
def cQ (H:Hp):List V→List D→Prop
 | [],[]=>True
 | v :: vs,d :: ds=>Den H v d∧cQ H vs ds
 | _,_=>False
end
mutual
theorem Den.same {H H':Hp} (e:Same H H'):∀ {d:D} {v:V},Den H v d→Den H' v d
 | .non,_,h=>h
 | .bl _,_,h=>h
 | .int _,_,h=>h
 | .str _,_,h=>h
 | .tup ds,_,h=>by
  obtain ⟨p,vs,rfl,hp,hd⟩:=h
  exact ⟨p,vs,rfl,e _ _ hp,cQ.same e hd⟩
theorem cQ.same {H H':Hp} (e:Same H H'):∀ {ds:List D} {vs:List V},cQ H vs ds→cQ H' vs ds
 | [],[],_=>trivial
 | _ :: _,_ :: _,h=>⟨Den.same e h.1,cQ.same e h.2⟩
 | [],_ :: _,h=>h.elim
 | _ :: _,[],h=>h.elim
end
theorem cQ.len {H:Hp}:∀ {ds:List D} {vs:List V},cQ H vs ds→vs.length=ds.length
 | [],[],_=>rfl
 | _ :: ds,_ :: vs,h=>by rw [List.length_cons,List.length_cons,cQ.len h.2]
 | [],_ :: _,h=>h.elim
 | _ :: _,[],h=>h.elim
theorem cQ.at_ {H:Hp}:∀ {ds:List D} {vs:List V} {i:Nat} {v:V},cQ H vs ds→vs[i]?=some v→∃ d,ds[i]?=some d∧Den H v d
 | [],[],i,v,_,h=>by simp at h
 | d :: ds,_ :: vs,0,v,h,e=>by
  simp at e
  subst e
  exact ⟨d,rfl,h.1⟩
 | _ :: ds,_ :: vs,i+1,v,h,e=>cQ.at_ (i:=i) h.2 (by simpa using e)
 | [],_ :: _,_,_,h,_=>h.elim
 | _ :: _,[],_,_,h,_=>h.elim
theorem cQ.strs {H:Hp}:∀ xs:List Str,cQ H (xs.map V.str) (xs.map D.str)
 | []=>trivial
 | _ :: r=>⟨rfl,cQ.strs r⟩
theorem cQ.snoc {H:Hp} {v:V} {d:D} (hd:Den H v d):∀ {ds:List D} {vs:List V},cQ H vs ds→cQ H (vs++[v]) (ds++[d])
 | [],[],_=>⟨hd,trivial⟩
 | _ :: _,_ :: _,h=>⟨h.1,cQ.snoc hd h.2⟩
 | [],_ :: _,h=>h.elim
 | _ :: _,[],h=>h.elim
def iT:Nat→D→Prop
 | 0,d=>d≠.non∧∀ ds,d≠.tup ds
 | n+1,d=>d≠.non∧∀ ds,d=.tup ds→ds.length≤100000∧∀ e∈ds,iT n e
theorem iT.up:∀ {n:Nat} {d:D},iT n d→iT (n+1) d
 | 0,d,h=>⟨h.1,fun ds e=>absurd e (h.2 ds)⟩
 | n+1,d,h=>⟨h.1,fun ds e=>⟨(h.2 ds e).1,fun x hx=>((h.2 ds e).2 x hx).up⟩⟩
theorem mZ (x:Int):iT 0 (.int x):=⟨(fun z=>nomatch z),fun _ z=>nomatch z⟩
theorem Has.never {P:Program} {w:World} {K:PySem.W.Frag} {mg:Str→Option Value} {base:Heap} {x:Str} {st:Stmt} {ps:List Str} {sp:Sp} (h:Has K mg x st ps) (no:∀ vs H Q E,¬ sp vs H Q E):Cal P w K mg base x 0 ps sp :=
 h.cal fun f fd F _ _=>⟨fun vs H Q E z=>absurd z (no vs H Q E),fun A outer s H args us vs Q E _ _ _ _ z=>absurd z (no vs H Q E)⟩
theorem bO {H:Hp} {ds:List D} {v:V} (h:Den H v (.tup ds)):∃ (p:Addr) (vs:List V),v=.ref p∧H p=some (.tup vs)∧cQ H vs ds:=h
def M4 (p:Addr) (H H':Hp):Prop:=∀ c o,H c=some o→c≠p→H' c=some o
mutual
theorem Den.keepT {H H':Hp} (e:∀ (b:Addr) (vs:List V),H b=some (.tup vs)→H' b=some (.tup vs)):∀ {d:D} {v:V},Den H v d→Den H' v d
 | .non,_,h=>h
 | .bl _,_,h=>h
 | .int _,_,h=>h
 | .str _,_,h=>h
 | .tup ds,_,h=>by
  obtain ⟨p,vs,rfl,hp,hd⟩:=h
  exact ⟨p,vs,rfl,e _ _ hp,cQ.keepT e hd⟩
theorem cQ.keepT {H H':Hp} (e:∀ (b:Addr) (vs:List V),H b=some (.tup vs)→H' b=some (.tup vs)):∀ {ds:List D} {vs:List V},cQ H vs ds→cQ H' vs ds
 | [],[],_=>trivial
 | _ :: _,_ :: _,h=>⟨Den.keepT e h.1,cQ.keepT e h.2⟩
 | [],_ :: _,h=>h.elim
 | _ :: _,[],h=>h.elim
end
section
variable {X:Cx} {K:PySem.W.Frag} {o e:Expr} {es:List Expr} {to:TE} {t:TA} {name:Str} {apos cpos:Pos} {T id:String} {r:V→List V→Hp→VK→Prop}
theorem GK (hK:X.K=K) (pa:PlainAttrs T) (slot:Slot T name id) (hty:typeOf (.builtin id)=pure (.type "method_descriptor")) (hm:MtR X id r) (ho:PE X o to)
  (hbase:attributeBase o name X.env (eval o X.env)=eval o X.env:=by rfl) (hline:(apos.endLine == cpos.line)=true:=by rfl):PE X (.Call (.Attribute o name apos) [] [] cpos) (Mr K T r to):=by
 subst hK
 exact qC pa slot hty hm ho hbase hline
theorem dG (hK:X.K=K):IxR X (HS K):=by subst hK; exact bR
theorem rP (hK:X.K=K):IxR X (Mp K):=by subst hK; exact bH
theorem dM (hK:X.K=K):fK X (.builtin "len") (fun xs H Q=>∃ p ys,xs=[.ref p]∧(SqL K H p ys∨SqT K H p ys)∧Q (.int ys.length) H):=by subst hK; exact aQ
theorem lY (hK:X.K=K):fK X (.type "tuple") (fun xs H Q=>∃ p ys,xs=[.ref p]∧((SqL K H p ys∧∀ l,H l=none→Q (.ref l) (upd H l (.tup ys)))∨(SqT K H p ys∧Q (.ref p) H))):=by subst hK; exact bM
theorem mJ (hK:X.K=K):OpR X (compareOp .In) (rIn K false):=by subst hK; exact pC
end
end L2
namespace L2
open PySem PySem.Spec PyProof.Rows
section
variable {κ:Type} [DecidableEq κ]
def j9 (kvs:List (κ × V)) (k:κ):Option V:=(kvs.find? fun kv=>decide (kv.1=k)).map (·.2)
def putK (kvs:List (κ × V)) (k:κ) (v:V):List (κ × V) :=
 if (kvs.any fun kv=>decide (kv.1=k))=true then kvs.map (fun kv=>if kv.1=k then (kv.1,v) else kv) else kvs++[(k,v)]
def MP (kvs:List (κ × V)) (k:κ):List (κ × V):=kvs.filter fun kv=>decide (kv.1≠k)
theorem dD {p:κ × V} {r:List (κ × V)} {k:κ} (e:p.1=k):j9 (p :: r) k=some p.2:=by simp [j9,List.find?_cons,e]
theorem dJ {p:κ × V} {r:List (κ × V)} {k:κ} (e:¬ p.1=k):j9 (p :: r) k=j9 r k:=by simp [j9,List.find?_cons,e]
theorem kE (k:κ):∀ kvs:List (κ × V),(kvs.any fun kv=>decide (kv.1=k))=(j9 kvs k).isSome
 | []=>rfl
 | p :: r=>by
  rw [List.any_cons]
  by_cases e:p.1=k
  ·simp only [dD e,decide_eq_true e,Bool.true_or,Option.isSome_some]
  ·rw [dJ e,decide_eq_false e,Bool.false_or]; exact kE k r
theorem tR (k j:κ) (y:V):∀ kvs:List (κ × V),j9 (kvs.map fun kv=>if kv.1=k then (kv.1,y) else kv) j=(j9 kvs j).map fun x=>if j=k then y else x
 | []=>rfl
 | p :: r=>by
  have ih:=tR k j y r
  rw [List.map_cons]
  by_cases h:p.1=k
  ·rw [if_pos h]
   by_cases e:p.1=j
   ·rw [dD (p:=(p.1,y)) e,dD e,Option.map_some,if_pos (e.symm.trans h)]
   ·rw [dJ (p:=(p.1,y)) e,dJ e,ih]
  ·rw [if_neg h]
   by_cases e:p.1=j
   ·rw [dD (p:=p) e,dD e,Option.map_some,if_neg (fun z=>h (e.trans z))]
   ·rw [dJ (p:=p) e,dJ e,ih]
theorem pU (k j:κ) (y:V):∀ kvs:List (κ × V),j9 kvs k=none→j9 (kvs++[(k,y)]) j=if j=k then some y else j9 kvs j
 | [],_=>by
  by_cases e:k=j
  ·rw [if_pos e.symm]; exact dD (p:=(k,y)) e
  ·rw [if_neg (fun z=>e z.symm)]; exact dJ (p:=(k,y)) e
 | p :: r,hn=>by
  rw [List.cons_append]
  have hk:¬ p.1=k:=fun z=>by rw [dD z] at hn; cases hn
  rw [dJ hk] at hn
  have ih:=pU k j y r hn
  by_cases e:p.1=j
  ·rw [dD e,dD e,if_neg (fun z=>hk (e.trans z))]
  ·rw [dJ e,dJ e,ih]
theorem m7 (kvs:List (κ × V)) (k j:κ) (y:V):j9 (putK kvs k y) j=if j=k then some y else j9 kvs j:=by
 unfold putK
 by_cases a:(kvs.any fun kv=>decide (kv.1=k))=true
 ·rw [if_pos a,tR]
  rw [kE] at a
  by_cases e:j=k
  ·obtain ⟨x,hx⟩:=Option.isSome_iff_exists.mp a
   rw [if_pos e,e,hx,Option.map_some,if_pos rfl]
  ·rw [if_neg e]
   cases j9 kvs j with
   | none=>rfl
   | some x=>rw [Option.map_some,if_neg e]
 ·rw [if_neg a]
  refine pU k j y kvs ?_
  rw [kE] at a
  cases q:j9 kvs k with
  | none=>rfl
  | some x=>rw [q] at a; exact (a rfl).elim
theorem iK (kvs:List (κ × V)) (k:κ) (v:V):(putK kvs k v).length≤kvs.length+1:=by
 unfold putK
 split
 ·rw [List.length_map]; omega
 ·rw [List.length_append,List.length_cons,List.length_nil]; omega
theorem vh.isSome_eq {o:Option V} {u:Option Value} (r:vh o u):o.isSome=u.isSome:=by
 cases o with
 | none=>cases u with
  | none=>rfl
  | some _=>exact (show False from r).elim
 | some _=>cases u with
  | none=>exact (show False from r).elim
  | some _=>rfl
theorem vh.getD {o:Option V} {u:Option Value} {d:V} {d':Value} (r:vh o u) (rd:RelV d d'):RelV (o.getD d) (u.getD d'):=by
 cases o with
 | none=>cases u with
  | none=>exact rd
  | some _=>exact (show False from r).elim
 | some _=>cases u with
  | none=>exact (show False from r).elim
  | some _=>exact r
theorem KV.val {kvs:List (κ × V)} {vs:List (κ × Value)} (r:KV kvs vs) (k:κ):vh (j9 kvs k) (valueAt vs k):=by
 unfold KV at r
 induction r with
 | nil=>exact True.intro
 | @cons p q ps qs h t ih =>
  obtain ⟨h1,h2⟩:=h
  by_cases e:p.1=k
  ·have e':q.1=k:=h1.symm.trans e
   have b:valueAt (q :: qs) k=some q.2:=by simp [valueAt,List.find?_cons,e']
   rw [dD e,b]; exact h2
  ·have e':¬ q.1=k:=fun z=>e (h1.trans z)
   have b:valueAt (q :: qs) k=valueAt qs k:=by simp [valueAt,List.find?_cons,e']
   rw [dJ e,b]; exact ih
theorem KV.any {kvs:List (κ × V)} {vs:List (κ × Value)} (r:KV kvs vs) (k:κ):(kvs.any fun kv=>decide (kv.1=k))=vs.any fun kv=>decide (kv.1=k):=by
 unfold KV at r
 induction r with
 | nil=>rfl
 | cons h t ih=>rw [List.any_cons,List.any_cons,ih,h.1]
theorem KV.repl {kvs:List (κ × V)} {vs:List (κ × Value)} (r:KV kvs vs) (k:κ) {y:V} {u:Value} (ry:RelV y u) :
  KV (kvs.map fun kv=>if kv.1=k then (kv.1,y) else kv) (vs.map fun kv=>if kv.1=k then (kv.1,u) else kv):=by
 unfold KV at r ⊢
 induction r with
 | nil=>exact .nil
 | @cons p q ps qs h t ih =>
  rw [List.map_cons,List.map_cons]
  refine .cons ?_ ih
  obtain ⟨h1,h2⟩:=h
  by_cases e:p.1=k
  ·rw [if_pos e,if_pos (h1.symm.trans e)]; exact ⟨h1,ry⟩
  ·rw [if_neg e,if_neg (fun z=>e (h1.trans z))]; exact ⟨h1,h2⟩
theorem KV.put {kvs:List (κ × V)} {vs:List (κ × Value)} (r:KV kvs vs) (k:κ) {y:V} {u:Value} (ry:RelV y u):KV (putK kvs k y) (stored vs k u):=by
 unfold putK stored
 rw [r.any k]
 by_cases e:(vs.any fun kv=>decide (kv.1=k))=true
 ·rw [if_pos e,if_pos e]; exact r.repl k ry
 ·rw [if_neg e,if_neg e]; exact Paired.snoc r ⟨rfl,ry⟩
theorem KV.keys {kvs:List (κ × V)} {vs:List (κ × Value)} (r:KV kvs vs):kvs.map (·.1)=vs.map (·.1):=by
 unfold KV at r
 induction r with
 | nil=>rfl
 | cons h t ih=>rw [List.map_cons,List.map_cons,ih,h.1]
theorem KV.length {kvs:List (κ × V)} {vs:List (κ × Value)} (r:KV kvs vs):kvs.length=vs.length:=Paired.length r
end
theorem BR {P:Program} {w:World} {k:Key} {u:Value} (r:RelV (kV k) u):(dU P w).is k u=true:=by
 cases k with
 | inl i=>obtain ⟨t,e⟩:=(show ∃ t,u=Value.int i t from r); subst e; exact rZ P w i t
 | inr x=>obtain ⟨t,e⟩:=(show ∃ t,u=Value.str x t from r); subst e; exact rT P w x t
theorem pR {P:Program} {w:World}:∀ {ks:List Key} {us:List Value},Vals (ks.map kV) us→ItemsAre (dU P w) ks us
 | [],_,r=>by rw [List.map_nil] at r; cases r; exact .nil
 | k :: ks,_,r=>by
  rw [List.map_cons] at r
  cases r with
  | cons h t=>exact .cons (BR h) (pR t)
abbrev KT (H:Hp):List (List Key × V)→List (List Key × Addr × Value)→Prop:=Paired fun p q=>p.1=q.1∧H q.2.1=some (.tup (p.1.map kV))∧RelV p.2 q.2.2
theorem KT.val {H:Hp} {kvs:List (List Key × V)} {xs:List (List Key × Addr × Value)} (r:KT H kvs xs) (k:List Key):vh (j9 kvs k) ((atKey xs k).map (·.2)):=by
 induction r with
 | nil=>exact True.intro
 | @cons p q ps qs h t ih =>
  obtain ⟨h1,_,h2⟩:=h
  by_cases e:p.1=k
  ·have e':q.1=k:=h1.symm.trans e
   have b:atKey (q :: qs) k=some q.2:=by simp [atKey,List.find?_cons,e']
   rw [dD e,b]; exact h2
  ·have e':¬ q.1=k:=fun z=>e (h1.trans z)
   have b:atKey (q :: qs) k=atKey qs k:=by simp [atKey,List.find?_cons,e']
   rw [dJ e,b]; exact ih
theorem KT.repl {H:Hp} {kvs:List (List Key × V)} {xs:List (List Key × Addr × Value)} (r:KT H kvs xs) (k:List Key) {y:V} {u:Value} (ry:RelV y u) :
  KT H (kvs.map fun kv=>if kv.1=k then (kv.1,y) else kv) (xs.map (putAt k u)):=by
 induction r with
 | nil=>exact .nil
 | @cons p q ps qs h t ih =>
  rw [List.map_cons,List.map_cons]
  refine .cons ?_ ih
  obtain ⟨h1,h2,h3⟩:=h
  unfold putAt
  by_cases e:p.1=k
  ·rw [if_pos e,if_pos (h1.symm.trans e)]; exact ⟨h1,h2,ry⟩
  ·rw [if_neg e,if_neg (fun z=>e (h1.trans z))]; exact ⟨h1,h2,h3⟩
theorem KT.put {H:Hp} {kvs:List (List Key × V)} {xs:List (List Key × Addr × Value)} (r:KT H kvs xs) (k:List Key) {b:Addr} {y:V} {u:Value} (hb:H b=some (.tup (k.map kV))) (ry:RelV y u) :
  KT H (putK kvs k y) (storedH xs k b u):=by
 have e:(kvs.any fun kv=>decide (kv.1=k))=(atKey xs k).isSome:=by
  rw [kE,(r.val k).isSome_eq,Option.isSome_map]
 unfold putK storedH
 rw [e]
 by_cases q:(atKey xs k).isSome=true
 ·rw [if_pos q,if_pos q]; exact r.repl k ry
 ·rw [if_neg q,if_neg q]; exact Paired.snoc r ⟨rfl,hb,ry⟩
theorem KT.keeps {H H':Hp} {kvs:List (List Key × V)} {xs:List (List Key × Addr × Value)} (r:KT H kvs xs) (ht:∀ b ys,H b=some (.tup ys)→H' b=some (.tup ys)):KT H' kvs xs :=
 Paired.mapP r fun _ _ z=>⟨z.1,ht _ _ z.2.1,z.2.2⟩
section
variable {P:Program} {w:World} {H:Hp} {h:Heap} {a:Addr}
theorem Ip {u:HO} (ok:HOk P w H h) (e:Rd H a u):cL P w H h a u:=e.ok ok
theorem Bq {kvs:List (Key × V)} (ok:HOk P w H h) (e:Rd H a (.dK kvs)):kvs.length≤sizeLine∧(a == sysModules)=false∧∃ vs,KV kvs vs∧h.DictOf (dU P w) a vs :=
 show cL P w H h a (.dK kvs) from Ip ok e
theorem Kg {kvs:List (Key × V)} (ok:HOk P w H h) (e:H a=some (.dK kvs)):kvs.length≤sizeLine∧(a == sysModules)=false∧∃ vs,KV kvs vs∧h.DictOf (dU P w) a vs:=Bq ok (.inl e)
theorem sV {ks:List Key} (ok:HOk P w H h) (e:H a=some (.tup (ks.map kV))):(tupleKind (dU P w)).is h ks a:=by
 obtain ⟨_,its,r,o,h1,h2,n,h3⟩:=(show cL P w H h a (.tup (ks.map kV)) from ok a _ e)
 exact ⟨o,its.toArray,n,h1,h2,h3,by simpa using pR r⟩
theorem BZ {kvs:List (List Key × V)} (ok:HOk P w H h) (e:Rd H a (.dT kvs)):kvs.length≤sizeLine∧(a == sysModules)=false ∧
  ∃ xs,KT H kvs xs∧h.DictOfH (tupleKind (dU P w)) a xs:=by
 obtain ⟨z,y,xs,r,o,es,ep,h1,h2,h3,h4,h5⟩:=(show cL P w H h a (.dT kvs) from Ip ok e)
 refine ⟨z,y,xs,r,o,es,ep,h1,h2,h3,h4,fun x hx=>?_,h5⟩
 have all:∀ {l:List (List Key × V)} {m:List (List Key × Addr × Value)},KT H l m→∀ x∈m,(tupleKind (dU P w)).is h x.1 x.2.1:=by
  intro l m q
  induction q with
  | nil=>intro x hx; exact nomatch hx
  | @cons p q ps qs hq t ih =>
   intro x hx
   rcases List.mem_cons.mp hx with e | hx
   ·subst e
    exact sV ok (by rw [← hq.1]; exact hq.2.1)
   ·exact ih x hx
 exact all r x hx
theorem J7 {kvs:List (List Key × V)} (ok:HOk P w H h) (e:H a=some (.dT kvs)):kvs.length≤sizeLine∧(a == sysModules)=false ∧
  ∃ xs,KT H kvs xs∧h.DictOfH (tupleKind (dU P w)) a xs:=BZ ok (.inl e)
end
def vM (H:Hp) (a:Addr) (y:V) (r:Option V):Prop :=
 (∃ kvs k,Rd H a (.dK kvs)∧y=kV k∧r=j9 kvs k)∨∃ kvs k b,Rd H a (.dT kvs)∧y=.ref b∧H b=some (.tup (k.map kV))∧r=j9 kvs k
def Dn (H:Hp) (a:Addr) (y v:V) (H':Hp):Prop :=
 (∃ kvs k,H a=some (.dK kvs)∧y=kV k∧kvs.length < sizeLine∧H'=upd H a (.dK (putK kvs k v))) ∨
 ∃ kvs k b,H a=some (.dT kvs)∧y=.ref b∧H b=some (.tup (k.map kV))∧kvs.length < sizeLine∧H'=upd H a (.dT (putK kvs k v))
theorem vM.k {H:Hp} {a:Addr} {kvs:List (Key × V)} {k:Key} (e:H a=some (.dK kvs)):vM H a (kV k) (j9 kvs k):=.inl ⟨kvs,k,.inl e,rfl,rfl⟩
theorem vM.t {H:Hp} {a b:Addr} {kvs:List (List Key × V)} {k:List Key} (e:H a=some (.dT kvs)) (eb:H b=some (.tup (k.map kV))):vM H a (.ref b) (j9 kvs k):=.inr ⟨kvs,k,b,.inl e,rfl,eb,rfl⟩
theorem Dn.k {H:Hp} {a:Addr} {kvs:List (Key × V)} {k:Key} {v:V} (e:H a=some (.dK kvs)) (hl:kvs.length < sizeLine):Dn H a (kV k) v (upd H a (.dK (putK kvs k v))):=.inl ⟨kvs,k,e,rfl,hl,rfl⟩
theorem Dn.t {H:Hp} {a b:Addr} {kvs:List (List Key × V)} {k:List Key} {v:V} (e:H a=some (.dT kvs)) (eb:H b=some (.tup (k.map kV))) (hl:kvs.length < sizeLine) :
  Dn H a (.ref b) v (upd H a (.dT (putK kvs k v))):=.inr ⟨kvs,k,b,e,rfl,eb,hl,rfl⟩
section
variable {X:Cx} {pins:List (Addr × Obj)} {σ:St} {H:Hp} {s:Shared} {a:Addr} {y v:V} {u r:Value} {o:Option V} {A:Around} {E:Value→Shared→Prop}
theorem Inv.big (I:Inv X pins σ H s):sysModules < s.heap.objs.size:=by
 have h:mainGlobals < s.heap.objs.size:=(I.mod.glob.keeps I.bk).lt
 exact Nat.lt_trans (by decide) h
theorem zQ {Q:Value→Shared→Prop} (hu:A.units+1 < cLine) (I:Inv X pins σ H s) (g:vM H a y (some v)) (ry:RelV y u) (h:∀ w' s',Inv X pins σ H s'→RelV v w'→Q w' s') :
  wpAny (model X.prog X.w) A (getItem (.ref a) u) Q E s:=by
 rcases g with ⟨kvs,k,e,ey,l⟩ | ⟨kvs,k,b,e,ey,eb,l⟩
 ·subst ey
  obtain ⟨z,hd,vs,rel,dd⟩:=Bq I.hok e
  obtain ⟨w',hw,rw'⟩:=vh.some_of (v:=v) (o:=valueAt vs k) (by rw [l]; exact rel.val k)
  exact wpAny_getItem_of (BR ry) dd.mapOf hw (h w' _ (I.tok _) rw')
 ·subst ey
  cases (show u=Value.ref b from ry)
  obtain ⟨z,hd,xs,rel,dd⟩:=BZ I.hok e
  obtain ⟨w',hw,rw'⟩:=vh.some_of (v:=v) (o:=(atKey xs k).map (·.2)) (by rw [l]; exact rel.val k)
  obtain ⟨p,hp,hp2⟩:=Option.map_eq_some_iff.mp hw
  refine wpAny_getItem_heap (tupleKind_room_in1 hu) (sV I.hok eb) dd hp ?_
  rw [hp2]
  exact h w' _ (I.tok _) rw'
theorem Ni {Q:Value→Shared→Prop} (hu:A.units+1 < cLine) (I:Inv X pins σ H s) (g:vM H a y o) (ry:RelV y u) (h:∀ s',Inv X pins σ H s'→Q (.bool o.isSome) s') :
  wpAny (model X.prog X.w) A (compareOp .In u (.ref a)) Q E s:=by
 rcases g with ⟨kvs,k,e,ey,l⟩ | ⟨kvs,k,b,e,ey,eb,l⟩
 ·subst ey
  obtain ⟨z,hd,vs,rel,dd⟩:=Bq I.hok e
  refine wpAny_in_of (BR ry) hd dd.mapOf ?_
  rw [← (rel.val k).isSome_eq,← l]
  exact h _ (I.tok _)
 ·subst ey
  cases (show u=Value.ref b from ry)
  obtain ⟨z,hd,xs,rel,dd⟩:=BZ I.hok e
  refine wpAny_in_heap (tupleKind_room_in1 hu) (sV I.hok eb) hd dd ?_
  have q:=(rel.val k).isSome_eq
  rw [Option.isSome_map] at q
  rw [← q,← l]
  exact h _ (I.tok _)
theorem yd {h':Heap} {t':Nat} {ob:HO} (I:Inv X pins σ H s) (mu:Mut (H a)) (hs:Heap.SameBut a s.heap h') (he:∃ q,h'.get? a=some q) (new:cL X.prog X.w (upd H a ob) h' a ob) :
  Inv X pins σ (upd H a ob) { s with heap:=h',toks:=t' } :=
 I.write (x:=a) (e:=a) mu (.inl rfl) (fun b q hb z=>(hs.2 b hb).trans z) he new
theorem JH {P:Program} {w:World} {H':Hp} {h':Heap} {kvs:List (Key × V)} {vs:List (Key × Value)} (z:kvs.length≤sizeLine) (hd:(a == sysModules)=false) (rel:KV kvs vs) (dd:h'.DictOf (dU P w) a vs) :
  cL P w H' h' a (.dK kvs):=⟨z,hd,vs,rel,dd⟩
theorem wk {H':Hp} {Q:Unit→Shared→Prop} (hu:A.units+1 < cLine) (I:Inv X pins σ H s) (g:Dn H a y v H') (ry:RelV y u) (rv:RelV v r) (h:∀ s',Inv X pins σ H' s'→Q () s') :
  wpAny (model X.prog X.w) A (setItem (.ref a) u r) Q E s:=by
 rcases g with ⟨kvs,k,e,ey,l,eH⟩ | ⟨kvs,k,b,e,ey,eb,l,eH⟩
 ·subst ey eH
  obtain ⟨z,hd,vs,rel,dd⟩:=Kg I.hok e
  have hz:vs.length≤sizeLine:=by rw [← rel.length]; exact z
  have hl:(putK kvs k v).length≤sizeLine:=by have:=iK kvs k v; omega
  refine wpAny_setItem_pairs (hsz:=hz) (BR ry) dd fun h' dd' hs=>h _ ?_
  have he:∃ q,h'.get? a=some q:=let ⟨q,_,_,hq,_⟩:=dd'; ⟨q,hq⟩
  exact yd I (by rw [e]; exact True.intro) hs he (JH hl hd (rel.put k rv) dd')
 ·subst ey eH
  cases (show u=Value.ref b from ry)
  obtain ⟨z,hd,xs,rel,dd⟩:=J7 I.hok e
  have hz:xs.length≤sizeLine:=by rw [← Paired.length rel]; exact z
  have hl:(putK kvs k v).length≤sizeLine:=by have:=iK kvs k v; omega
  refine wpAny_setItem_heap (hsz:=hz) (tupleKind_room_in1 hu) (sV I.hok eb) dd fun h' dd' hs=>h _ ?_
  obtain ⟨q,es,ep,hq,h2,h3,h4,_,h5⟩:=dd'
  refine yd I (by rw [e]; exact True.intro) hs ⟨q,hq⟩ ⟨hl,hd,_,(rel.put k eb rv).keeps fun c ys ec=>?_,q,es,ep,hq,h2,h3,h4,h5⟩
  rw [aM (lZ ec e (fun z=>nomatch z))]
  exact ec
end
section
variable {X:Cx} {pins:List (Addr × Obj)} {σ:St} {H:Hp} {s:Shared} {a:Addr} {kvs:List (Key × V)} {k:Key} {u:Value} {A:Around} {E:Value→Shared→Prop}
end
def LR (i:Expr):Prop:=∀ ov iv,subscripted i false ov iv=operate [ov,iv] (getItem ov iv)
theorem FP {prog:Program} {w:World} {A:Around} {E:Value→Shared→Prop} {s:Shared} {env:Env} {value slice:Expr} {pos:Pos} {T id:String} {Q:Value→Shared→Prop}
  (hl:typeLookup (.type T) "__getitem__" = pure (some (.builtin id))) (hs:LR slice)
  (h:wpAny (model prog w) A (eval value env) (fun o s₁=>wpAny (model prog w) A (eval slice env) (fun i s₂=>s₂.TypeIs o T∧wpAny (model prog w) A (getItem o i) Q E s₂) E s₁) E s) :
  wpAny (model prog w) A (eval (.Subscript value slice pos) env) Q E s:=by
 refine Subscript_ (wpAny_mono h (fun o s₁ h₁=>wpAny_mono h₁ (fun i s₂ h₂=>?_) fun _ _ x=>x) fun _ _ x=>x)
 obtain ⟨hT,h₂⟩:=h₂
 unfold subscriptTail
 refine wpAny_bind ?_
 rw [getitemInPython_of_ne hT.not_modules]
 refine wpAny_bind (wpAny_specialOf hT hl ?_)
 have fin:wpAny (model prog w) A (subscripted slice false o i) (fun r s₃=>wpAny (model prog w) A (letTemporaryGo value o r >>= fun _=>pure r) Q E s₃) E s₂:=by
  rw [hs o i]
  exact wpAny_operating (wpAny_mono h₂ (fun r s₃ h₃=>wpAny_bind (wpAny_letTemporaryGo (wpAny_pure h₃))) fun _ _ x=>x)
 first
  | exact wpAny_pure (wpAny_bind fin)
  | exact wpAny_bind (wpAny_pure (wpAny_bind fin))
  | exact wpAny_bind fin
theorem rN {X:Cx} {pins:List (Addr × Obj)} {σ:St} {H:Hp} {s:Shared} {a:Addr} {y:V} {o:Option V} (I:Inv X pins σ H s) (g:vM H a y o):s.TypeIs (.ref a) "dict":=by
 rcases g with ⟨kvs,k,e,_,_⟩ | ⟨kvs,k,b,e,_,_,_⟩
 ·obtain ⟨_,_,vs,_,dd⟩:=Bq I.hok e
  exact dd.typeIs
 ·obtain ⟨_,_,xs,_,dd⟩:=BZ I.hok e
  exact dd.typeIs
def KD (td ty:TE):TE:=fun σ H Q=>td σ H fun x H1=>ty σ H1 fun y H2=>∃ a v,x=.ref a∧vM H2 a y (some v)∧Q v H2
def MF (ty td:TE):TE:=fun σ H Q=>ty σ H fun y H1=>td σ H1 fun x H2=>∃ a o,x=.ref a∧vM H2 a y o∧Q (.bl o.isSome) H2
def K9 (td ty tv:TE):TS:=fun D σ H=>tv σ H fun v H1=>td σ H1 fun x H2=>ty σ H2 fun y H3=>∃ a H4,x=.ref a∧Dn H3 a y v H4∧D.nx σ H4
section
variable {X:Cx} {o i e value:Expr} {pos pos' tpos:Pos} {td ty tv:TE}
theorem Eu (hu:X.A.units+1 < cLine) (ho:PE X o td) (hi:PE X i ty) (hs:LR i):PE X (.Subscript o i pos) (KD td ty):=by
 intro pins s σ H Q I h
 refine FP PySem.F.slot_dict_getitem.lookup hs (thn (ho pins s σ H _ I h) fun u s1 ⟨x,H1,I1,rx,q1⟩=>thn (hi pins s1 σ H1 _ I1 q1) fun iv s2 ⟨y,H2,I2,ry,a,v,ex,g,q2⟩=>?_)
 subst ex
 obtain rfl:u=Value.ref a:=rx
 exact ⟨rN I2 g,zQ hu I2 g ry fun w' s3 I3 rw'=>⟨v,H2,I3,rw',q2⟩⟩
theorem IK (hu:X.A.units+1 < cLine) (hi:PE X i ty) (ho:PE X o td):PC X .In i o (MF ty td):=by
 intro pins s σ H Q I h
 refine thn (hi pins s σ H _ I h) fun iv s1 ⟨y,H1,I1,ry,q1⟩=>thn (ho pins s1 σ H1 _ I1 q1) fun u s2 ⟨x,H2,I2,rx,a,ov,ex,g,q2⟩=>?_
 subst ex
 obtain rfl:u=Value.ref a:=rx
 exact Ni hu I2 g ry fun s3 I3=>⟨.bl ov.isSome,H2,I3,rfl,q2⟩
theorem yP (hu:X.A.units+1 < cLine) (ho:PE X o td) (hi:PE X i ty) (hv:PE X value tv) (hs:swapsWith value (some (.Subscript o i pos')) pos.line X.env=pure false) :
  PS X (.Assign [.Subscript o i pos'] value pos) (K9 td ty tv):=by
 intro pins s σ H D I h
 refine wpAny_Assign_Subscript (thn (hv pins s σ H _ I h) fun r s1 ⟨v,H1,I1,rv,q1⟩=>thn (ho pins s1 σ H1 _ I1 q1) fun u s2 ⟨x,H2,I2,rx,q2⟩=>thn (hi pins s2 σ H2 _ I2 q2) fun iv s3 ⟨y,H3,I3,ry,a,H4,ex,g,q3⟩=>?_) hs
 subst ex
 obtain rfl:u=Value.ref a:=rx
 exact wk hu I3 g ry rv fun s4 I4=>⟨σ,H4,I4,q3⟩
end
theorem Cp {P:Program} {w:World} {H:Hp} (h:Heap) (hb:sysModules < h.objs.size):cL P w H (h.push { cls:=.type "dict",data:=.dict #[] }) h.objs.size (.dK []) :=
 ⟨Nat.zero_le _,beq_eq_false_iff_ne.mpr (Ne.symm (Nat.ne_of_lt hb)),[],.nil,Heap.DictOf.new h⟩
theorem Ay {P:Program} {w:World} {H:Hp} (h:Heap) (hb:sysModules < h.objs.size):cL P w H (h.push { cls:=.type "dict",data:=.dict #[] }) h.objs.size (.dT []) :=
 ⟨Nat.zero_le _,beq_eq_false_iff_ne.mpr (Ne.symm (Nat.ne_of_lt hb)),[],.nil,_,#[],0,Heap.get?_push_size _ rfl,⟨rfl,rfl,rfl⟩,rfl,rfl,List.nodup_nil⟩
def JQ:TE:=fun _ H Q=>∀ p,H p=none→Q (.ref p) (upd H p (.dK []))
def Ij:TE:=fun _ H Q=>∀ p,H p=none→Q (.ref p) (upd H p (.dT []))
section
variable {X:Cx} {pos:Pos}
theorem tL:PE X (.Dict [] [] pos) JQ:=fun pins s σ H Q I h =>
 wpAny_Dict_empty ⟨.ref s.heap.objs.size,_,I.laid (a:=s.heap.objs.size) (o:=.dK []) (t':=s.toks) (fun _ _ q=>Heap.get?_push_of_some _ q) (Nat.le_refl _) (Cp s.heap I.big),rfl,h _ (I.hok.fresh (Nat.le_refl _))⟩
theorem Cv:PE X (.Dict [] [] pos) Ij:=fun pins s σ H Q I h =>
 wpAny_Dict_empty ⟨.ref s.heap.objs.size,_,I.laid (a:=s.heap.objs.size) (o:=.dT []) (t':=s.toks) (fun _ _ q=>Heap.get?_push_of_some _ q) (Nat.le_refl _) (Ay s.heap I.big),rfl,h _ (I.hok.fresh (Nat.le_refl _))⟩
end
def DX (kvs more:List (Key × V)):List (Key × V):=more.foldl (fun acc kv=>putK acc kv.1 kv.2) kvs
theorem iY:∀ (more kvs:List (Key × V)),(DX kvs more).length≤kvs.length+more.length
 | [],kvs=>by show kvs.length≤kvs.length+0; omega
 | p :: r,kvs=>by
  have h1:=iY r (putK kvs p.1 p.2)
  have h2:=iK kvs p.1 p.2
  show (DX (putK kvs p.1 p.2) r).length≤_
  rw [List.length_cons]; omega
structure M1 (X:Cx) (o:Expr) (m:Str) (apos:Pos) (e:Expr) (cpos:Pos):Prop where
 base:attributeBase o m X.env (eval o X.env)=eval o X.env
 few:((backTo cpos (starEach [e] X.env)).all (fun x=>!x.1) && (backToKw cpos (keywordEach [] X.env)).all (fun x=>x.1.isSome)
  && decide (([e]:List Expr).length+([]:List Keyword).length+(if ([]:List Keyword).isEmpty then 0 else 1) < 30))=true
 line:(apos.endLine == cpos.line)=true
 trees:backTo cpos (starEach [e] X.env)=[(false,eval e X.env)]
structure M2 (X:Cx) (o:Expr) (m:Str) (apos:Pos) (e f:Expr) (cpos:Pos):Prop where
 base:attributeBase o m X.env (eval o X.env)=eval o X.env
 few:((backTo cpos (starEach [e,f] X.env)).all (fun x=>!x.1) && (backToKw cpos (keywordEach [] X.env)).all (fun x=>x.1.isSome)
  && decide (([e,f]:List Expr).length+([]:List Keyword).length+(if ([]:List Keyword).isEmpty then 0 else 1) < 30))=true
 line:(apos.endLine == cpos.line)=true
 trees:backTo cpos (starEach [e,f] X.env)=[(false,eval e X.env),(false,eval f X.env)]
section
variable {X:Cx} {pins:List (Addr × Obj)} {σ:St} {H:Hp} {s:Shared} {a:Addr} {y d:V} {u r:Value} {o:Option V} {A:Around} {E:Value→Shared→Prop}
end
section
variable {X:Cx} {o e f:Expr} {apos cpos:Pos} {td ty tx:TE}
end
section
variable {X:Cx} {pins:List (Addr × Obj)} {σ:St} {H:Hp} {s:Shared} {a:Addr} {kvs:List (Key × V)} {A:Around} {E:Value→Shared→Prop}
end
section
variable {X:Cx} {pins:List (Addr × Obj)} {σ:St} {H:Hp} {s:Shared} {a:Addr} {y:V} {u:Value} {A:Around} {E:Value→Shared→Prop}
end
end L2
namespace MD
open PySem
abbrev kwD (d:Value):List (Str × Value):=[(Str.ofString "default",d)]
section
variable {prog:Program} {w:World} {A:Around} {R:Result→Shared→Prop} {It:Addr} {fp wr:List Addr} {n:Nat} {Pr:Nat→Value→Prop} {Sx:Nat→Heap→Prop}
end
section
variable {prog:Program} {w:World} {A:Around} {E:Value→Shared→Prop} {s:Shared}
end
end MD
namespace MQ
open PySem
theorem Kf:typeLookup (.type "list") "keys" = pure none:=am_miss_of_fast (by decide +kernel)
end MQ
namespace DP
open PySem
theorem G9:entryFor table "dict.update.loop" = some Builtin.«dict.update.loop»:=entryFor_of_tree (by kernel_rfl)
theorem G7:plainId "dict.update.loop" = true:=by decide +kernel
section
variable {prog:Program} {w:World} {K:Type} [DecidableEq K] {knd:KeyKind prog w K} {A:Around} {R:Result→Shared→Prop} {It:Addr} {fp wr:List Addr} {n:Nat} {Pr:Nat→Value→Prop} {Sx:Nat→Heap→Prop}
def FW (ks:Nat→K) (vx:Nat→Value):Nat→Nat→List (K × Value)→List (K × Value)
 | _,0,kvs=>kvs
 | i,k+1,kvs=>FW ks vx (i+1) k (stored kvs (ks i) (vx i))
theorem Hj (kvs:List (K × Value)) (k:K) (v:Value):(stored kvs k v).length≤kvs.length+1:=by
 unfold stored
 split
 ·rw [List.length_map]; omega
 ·simp
end
end DP
namespace DP
open PySem
section
variable {prog:Program} {w:World} {K:Type} [DecidableEq K] {knd:KeyKind prog w K} {A:Around} {E:Value→Shared→Prop} {s:Shared}
end
end DP
namespace L2
open PySem PySem.Spec PyProof.Rows
def Prs (H:Hp):List V→List (Key × V)→Prop:=Paired fun v kv=>∃ p:Addr,v=.ref p∧H p=some (.tup [kV kv.1,kv.2])
end L2
namespace L2
open PySem PySem.Spec PyProof.Rows
def Itd (a:Int) (n:Nat):It:=⟨fun i _=>i < n,fun i H x H'=>H'=H∧x=.int (a - i),fun i _=>n≤i⟩
theorem wQ {P:Program} {w:World} {K:PySem.W.Frag} {tg:Expr} (it:Addr) (a:Int) (n:Nat):Turn P w K tg (Itd a n) [it] it (fun i h=>IsRangeIter h it (a+(i:Nat) * (-1)) ((n:Int) - (i:Nat)) (-1)) where
 mem:=by simp
 obj:=fun i h st b hb=>by
  have e:b=it:=by simpa using hb
  subst e
  refine ⟨_,st,fun v z=>?_⟩
  have z':Data.fields _=Data.cell v:=z
  cases z'
 keep:=fun i h h' st k=>k it (by simp) _ st
 item:=by
  intro X hP hw hK hc i pins s σ H E I hf st hg
  subst hP hw hK
  obtain ⟨f0,f1,f2,f3,f4,f5⟩:=hf it (by simp)
  refine (Walks.range (prog:=X.prog) (w:=X.w) (I.ok.hd hc) it a (-1) n).item i s _ _ hg st fun v h' tk hv st' kk=>?_
  obtain ⟨t,rfl⟩:=hv
  have I1:Inv X pins σ H { s with heap:=h',toks:=tk }:=I.turned (fun b o hb e=>kk b o (by simpa using hb) e) f0 f1 f3 f4 f5
  refine ⟨_,rfl,vY (s:={ s with heap:=h',toks:=tk }) (n:="range_iterator") st' rfl rfl (by decide) ⟨.int (a - i),H,I1,⟨t,?_⟩,⟨rfl,rfl⟩,st',fun b hb=>(hf b hb).1⟩⟩
  congr 1
  omega
 done:=by
  intro X hP hw hK hc i pins s σ H E I hf st hg
  subst hP hw hK
  obtain ⟨f0,f1,f2,f3,f4,f5⟩:=hf it (by simp)
  refine wpAny_pyNext_range_end (I.ok.hd hc) st (by have:n≤i:=hg; omega) fun h' eb=>⟨rfl,?_⟩
  exact I.turned (t':=s.toks) (fun b o hb e=>eb b o hb e) f0 f1 f3 f4 f5
 self:=fun _ _ _ _ _ st h=>wpAny_pyIter_rangeiter st h
theorem sO {a:Int} {n:Nat} {g:TG} {tb:TS} {D:Ends} {σ:St} {H:Hp} (Pv:Nat→St→Hp→Prop) (h0:Pv 0 σ H)
  (hs:∀ i σ H,i < n→Pv i σ H→g (.int (a - i)) σ H fun σ2 H2=>tb { D with nx:=Pv (i+1),ct:=Pv (i+1),bk:=D.nx } σ2 H2) (hd:∀ σ H,Pv n σ H→D.nx σ H) :
  ∃ W:Nat→Nat→St→Hp→Prop,(∃ m,W 0 m σ H)∧∀ i m σ H,W i m σ H →
   ((Itd a n).stop i H∧D.nx σ H)∨((Itd a n).go i H∧∃ N:St→Hp→Prop,(∀ σ' H',N σ' H'→∃ m',m' < m∧W (i+1) m' σ' H')∧∀ x H',(Itd a n).yld i H x H'→g x σ H' fun σ2 H2=>tb { D with nx:=N,ct:=N,bk:=D.nx } σ2 H2):=by
 refine ⟨fun i m σ H=>m=n - i∧i≤n∧Pv i σ H,⟨n,rfl,Nat.zero_le _,h0⟩,?_⟩
 rintro i m σ H ⟨rfl,hi,p⟩
 by_cases hlt:i < n
 ·refine .inr ⟨hlt,Pv (i+1),fun σ' H' p'=>⟨n - (i+1),by omega,rfl,hlt,p'⟩,fun x H' y=>?_⟩
  obtain ⟨rfl,rfl⟩:=y
  exact hs i σ _ hlt p
 ·have e:i=n:=by omega
  subst e
  exact .inl ⟨Nat.le_refl _,hd σ H p⟩
end L2
namespace M08
end M08
namespace SLi
open PySem
theorem clip (a b n:Nat):Builtin.Str.strSliceIndices (some (a:Int)) (some (b:Int)) 1 n=Builtin.Str.strSliceIndices (some ((min a n:Nat):Int)) (some ((min b n:Nat):Int)) 1 n:=by
 have e1:¬ ((a:Int) < 0):=by omega
 have e2:¬ ((b:Int) < 0):=by omega
 have e3:¬ (((min a n:Nat):Int) < 0):=by omega
 have e4:¬ (((min b n:Nat):Int) < 0):=by omega
 have h1:max (0:Int) (min (a:Int) (n:Int))=max 0 (min ((min a n:Nat):Int) (n:Int)):=by omega
 have h2:max (0:Int) (min (b:Int) (n:Int))=max 0 (min ((min b n:Nat):Int) (n:Int)):=by omega
 simp only [Builtin.Str.strSliceIndices,e1,e2,e3,e4,if_false,h1,h2]
 rfl
theorem both (x:Str) {a b:Nat} (h:a≤b):Txt.slice x (some (a:Int)) (some (b:Int))=⟨((x.cps.toList.drop a).take (b - a)).toArray⟩:=by
 have hl:x.cps.toList.length=x.length:=by simp [Str.length]
 have e:Txt.slice x (some (a:Int)) (some (b:Int))=Txt.slice x (some ((min a x.length:Nat):Int)) (some ((min b x.length:Nat):Int)):=by
  unfold Txt.slice
  rw [clip]
 rw [e]
 have p:=StrLaws.sliceText_plain (x:=x) (i:=((min a x.length:Nat):Int)) (j:=((min b x.length:Nat):Int)) ⟨by omega,by omega,by omega⟩
 have p':Txt.slice x (some ((min a x.length:Nat):Int)) (some ((min b x.length:Nat):Int))=_:=p
 rw [p']
 congr 1
 have e1:(((min a x.length:Nat):Int)).toNat=min a x.length:=by omega
 have e2:(((min b x.length:Nat):Int) - ((min a x.length:Nat):Int)).toNat=min b x.length - min a x.length:=by omega
 rw [e1,e2]
 congr 1
 by_cases ha:a≤x.length
 ·rw [Nat.min_eq_left ha]
  by_cases hb:b≤x.length
  ·rw [Nat.min_eq_left hb]
  ·rw [Nat.min_eq_right (by omega)]
   rw [List.take_of_length_le (by rw [List.length_drop]; omega),List.take_of_length_le (by rw [List.length_drop]; omega)]
 ·rw [Nat.min_eq_right (by omega),List.drop_eq_nil_of_le (by omega),List.drop_eq_nil_of_le (by omega)]
  simp
end SLi
namespace L2
open PySem PySem.Spec PyProof.Rows M08
structure OkC (cs:List (List Nat)):Prop where
 few:cs.length≤100
 size:∀ c∈cs,1≤c.length∧c.length≤8
theorem cD {α:Type} (x:α) (xs:List α):atI (x :: xs) 0=some x:=bw (xs:=x :: xs) (j:=0) rfl
end L2
namespace L2
open PySem PySem.Spec PyProof.Rows M08
end L2
namespace M08
end M08
namespace M05
def nmN:Nat→Nat→List Nat
 | 0,_=>[]
 | f+1,r=>if r=0 then [] else nmN f ((r - 1) / 26)++[97+(r - 1) % 26]
def nm (r:Nat):List Nat:=nmN r r
def dg:Nat→Nat→List Nat
 | 0,_=>[]
 | s+1,k=>dg s (k / 26)++[97+k % 26]
def sh:Nat→Nat
 | 0=>0
 | s+1=>26 * sh s+(if s=0 then 0 else 26)
end M05
namespace M05
theorem least {F:Nat→Prop}:∀ N:Nat,(∃ m,m≤N∧F m)→∃ m,m≤N∧F m∧∀ j,j < m→¬ F j
 | 0,⟨m,h,f⟩=>⟨m,h,f,fun j hj=>by omega⟩
 | N+1,⟨m,h,f⟩=>by
  by_cases hx:∃ m,m≤N∧F m
  ·obtain ⟨m',h',f',g'⟩:=least N hx
   exact ⟨m',by omega,f',g'⟩
  ·have em:m=N+1:=by
    by_cases z:m≤N
    ·exact absurd ⟨m,z,f⟩ hx
    ·omega
   subst em
   exact ⟨N+1,Nat.le_refl _,f,fun j hj z=>hx ⟨j,by omega,z⟩⟩
end M05
namespace L2
open PySem PySem.Spec PyProof.Rows
def Kz:R2:=fun x y H Q=>∃ (a b:Addr) (xs ys:List V),x=.ref a∧y=.ref b∧H a=some (.tup xs)∧H b=some (.tup ys)∧xs.length+ys.length≤sizeLine∧∀ (q:Addr) (H':Hp),Same H H'→H' q=some (.tup (xs++ys))→Q (.ref q) H'
theorem je {X:Cx}:OpR X (binaryOp .Add) Kz:=by
 intro pins s σ H x y v u Q I rx ry h
 obtain ⟨a,b,xs,ys,rfl,rfl,ha,hb,hz,q⟩:=h
 cases xs with
 | cons x1 xs =>
  refine GC pins s σ H (.ref a) (.ref b) v u Q I rx ry ⟨a,b,_,_,rfl,rfl,SqT.of ha,SqT.of hb,by simp,hz,fun z=>?_,fun z p hp=>q p _ (aq hp _) ak⟩
  refine q a H (Same.refl H) ?_
  rw [ha,z,List.append_nil]
 | nil =>
  cases rx
  cases ry
  obtain ⟨its,r1,p1,_⟩:=I.tuple (SqT.of (K:=X.K) ha)
  obtain ⟨its2,r2,p2,_⟩:=I.tuple (SqT.of (K:=X.K) hb)
  cases r1
  obtain ⟨⟨cls,dd,data,sl⟩,ho,hc,n,hd⟩:=id p1
  obtain ⟨⟨cls2,dd2,data2,sl2⟩,ho2,hc2,n2,hd2⟩:=id p2
  simp only at hc hd hc2 hd2
  subst hc hd hc2 hd2
  refine concat_meets ⟨_,ho,rfl⟩ ⟨_,ho2,rfl⟩ noFill_tuple_add seq_tuple_add PySem.F.slot_tuple_add PySem.F.entry_tuple_add (PySem.F.args_tuple_add_2 _ _) (tuple_addW0 a b _ its2.toArray n n2 dd dd2 sl sl2 rfl) ⟨ho,ho2,?_⟩
  exact ⟨.ref b,H,I,rfl,q b H (Same.refl H) hb⟩
theorem rA (a:Str):∀ xs:List Str,inV (.str a) (xs.map V.str)=decide (a∈xs)
 | []=>rfl
 | x :: xs=>by
  have ih:=rA a xs
  unfold inV at ih ⊢
  rw [List.map_cons,List.any_cons,ih]
  show (x == a || decide (a∈xs))=_
  rw [Bool.eq_iff_iff,Bool.or_eq_true,decide_eq_true_eq,decide_eq_true_eq,List.mem_cons,beq_iff_eq]
  constructor
  ·rintro (h | h)
   ·exact .inl h.symm
   ·exact .inr h
  ·rintro (h | h)
   ·exact .inl h.symm
   ·exact .inr h
end L2
namespace ET
open PySem
open Sem (wp)
open AutoSeq1 (wpAny_loadPart')
theorem Iu {prog:Program} {w:World} {A:Around} (hd:A.handled=none) (it t:Addr) (ne:t≠it) (its:Array Value) :
  Draws prog w A it [it,t] its.size (fun i v=>its[i]?=some v) (fun i h=>h.IsTupleIter it t i∧h.IsTuple t its) where
 live:=fun _ _ st=>by
  obtain ⟨⟨o,ho,_⟩,_⟩:=st
  exact ⟨o,ho⟩
 frame:=fun _ _ _ st k=>⟨st.1.at fun o e=>k it (by simp) o e,st.2.at fun o e=>k t (by simp) o e⟩
 item:=fun i s Q E hi st q=>by
  refine ZT.tG st.1 st.2 (x:=its[i]) (by simp [hi]) fun g ti sb=>?_
  exact q _ g s.toks (by simp [hi]) ⟨ti,st.2.extBut sb.extBut ne⟩ sb
 done:=fun s Q E st q=>ZT.sE hd st.1 st.2 (by simp) q
theorem xM (t:Addr) (us:Array Value):Meets (Builtin.«enumerate.__new__» ⟨[.type "enumerate",.ref t],[]⟩) (fun _ R s=>s.heap.IsTuple t us ∧
   R (.ok (.ret (.ref (s.heap.push { cls:=.type "tuple_iterator",data:=.fields #[.ref t,.int 0 0] }).objs.size)))
    { s with heap:=(s.heap.push { cls:=.type "tuple_iterator",data:=.fields #[.ref t,.int 0 0] }).push { cls:=.type "enumerate",data:=.fields #[.none,.bool false,.ref s.heap.objs.size,rawInt 0,.none,.none] } }):=by
 refine .of_wp fun prog w A R s h=>?_
 obtain ⟨hp,g,d,tk,os⟩:=s
 obtain ⟨u1,h⟩:=h
 have u1':Heap.IsTuple (Shared.heap ⟨hp,g,d,tk,os⟩) t us:=u1
 have sub:=sub_enumerate
 wp_walk
 refine wpAny_stack_any fun st=>wpAny_pure ?_
 split
 ·rename_i c _ _ _ _ _
  cases (c == Value.type "enumerate")
  all_goals
   wp_walk using wpAny_pyIter_tuple u1'
   exact ⟨_,rfl,h⟩
 ·wp_walk using wpAny_pyIter_tuple u1'
  exact ⟨_,rfl,h⟩
theorem u0 {prog:Program} {w:World} {A:Around} {E:Value→Shared→Prop} {s:Shared} {t:Addr} {us:Array Value} {Q:Value→Shared→Prop} (u1:s.heap.IsTuple t us)
  (k:∀ g,IsEnum g (s.heap.objs.size+1) s.heap.objs.size 0 .none→g.IsTupleIter s.heap.objs.size t 0→(∀ c o,s.heap.get? c=some o→g.get? c=some o)→Q (.ref (s.heap.objs.size+1)) { s with heap:=g }) :
  wpAny (model prog w) A (call (.type "enumerate") [.ref t]) Q E s:=by
 refine callType_new F.called_enumerate (by decide) (F.typeCall_enumerate_1 _) (F.newCall_enumerate_1 _) (fun obj=>F.args_object_init_2 obj _) F.entry_enumerate_new (xM t us) ⟨u1,?_⟩
 have n1:(ZT.zh1 s.heap t).objs.size=s.heap.objs.size+1:=Heap.size_push ..
 have p1:((ZT.zh1 s.heap t).push { cls:=.type "enumerate",data:=.fields #[.none,.bool false,.ref s.heap.objs.size,rawInt 0,.none,.none] }).get? (ZT.zh1 s.heap t).objs.size=some _:=Heap.get?_push_size _ rfl
 rw [n1] at p1
 show _∧_
 rw [n1]
 exact ⟨⟨_,p1,rfl⟩,k _ p1 ⟨_,Heap.get?_push_of_some _ (Heap.get?_push_size _ rfl),rfl,rfl⟩ fun c o q=>Heap.get?_push_of_some _ (Heap.get?_push_of_some _ q)⟩
theorem xU {prog:Program} {w:World} {A:Around} {E:Value→Shared→Prop} {s:Shared} {e it t:Addr} {i:Nat} {j:Int} {us:Array Value} {old:Value} {Q:Option Value→Shared→Prop} (hd:A.handled=none)
  (ee:IsEnum s.heap e it j old) (ti:s.heap.IsTupleIter it t i) (tt:s.heap.IsTuple t us) (tx:us[i]?=none) (k:∀ g,Heap.ExtBut it s.heap g→Q none { s with heap:=g }):wpAny (model prog w) A (pyNext (.ref e)) Q E s:=by
 have ty:s.TypeIs (.ref e) "enumerate":=⟨_,ee,rfl⟩
 unfold pyNext
 refine wpAny_bind (wpAny_attempt (wpAny_callSpecial?_slot (name:=Str.ofString "__next__") ty F.slot_enumerate_next (wpAny_call_entry F.slot_enumerate_next ty F.entry_enumerate_next ?_ (F.args_enumerate_next_1 _))))
 show wpAny _ _ (field (.ref e) 2 >>= _) _ _ _
 refine wpAny_bind (wpAny_field ee rfl (x:=.ref it) rfl (wpAny_bind (ZT.sE hd ti tt tx fun g x eb hx=>?_)))
 obtain ⟨o,ho,c⟩:=hx
 exact wpAny_bind (wpAny_isInstance (T:="StopIteration") (b:=true) ⟨o,ho,c⟩ isSubtype_stop (wpAny_pure (k _ eb)))
end ET
namespace L2
open PySem PySem.Spec PyProof.Rows
def G8 (K:PySem.W.Frag) (a:Addr):It :=
 ⟨fun i H=>∃ xs x,SqT K H a xs∧xs[i]?=some x,fun i H v H'=>∃ t x,v=.ref t∧H t=none∧H'=upd H t (.tup [.int (i:Nat),x])∧∀ xs,SqT K H a xs→xs[i]?=some x,fun i H=>∃ xs,SqT K H a xs∧xs.length≤i⟩
theorem vC {P:Program} {w:World} {K:PySem.W.Frag} {elts:List Expr} {k1:Nat} {p1:Pos} (a e it:Addr) (hne:e≠it) (hae:a≠e) (hai:a≠it) :
  Turn P w K (.Tuple elts k1 p1) (G8 K a) [e,it] e (fun i h=>(∃ old,IsEnum h e it ((i:Nat):Int) old)∧h.IsTupleIter it a i) where
 mem:=by simp
 obj:=fun i h st b hb=>by
  obtain ⟨⟨old,he⟩,o,ho,c,d⟩:=st
  have hb':b=e∨b=it:=by simpa using hb
  rcases hb' with rfl | rfl
  ·exact ⟨_,he,fun v z=>by
    have z':Data.fields _=Data.cell v:=z
    cases z'⟩
  ·exact ⟨o,ho,fun v z=>by rw [d] at z; cases z⟩
 keep:=fun i h h' st k=>by
  obtain ⟨⟨old,he⟩,hit⟩:=st
  exact ⟨⟨old,k e (by simp) _ he⟩,hit.at fun o q=>k it (by simp) o q⟩
 item:=by
  intro X hP hw hK hc i pins s σ H E I hf st hg
  subst hP hw hK
  obtain ⟨xs,x,hq,hx⟩:=hg
  obtain ⟨its,rv,p,hz⟩:=I.tuple hq
  obtain ⟨u,hu,ru⟩:=rv.get hx
  obtain ⟨⟨old,he⟩,hit⟩:=st
  have fe:=hf e (by simp)
  have fi:=hf it (by simp)
  obtain ⟨oi,hoi,_⟩:=id hit
  have pT:s.heap.IsTuple a its.toArray:=p
  have hlt:i < its.toArray.size:=by
   have:=(List.getElem?_eq_some_iff.mp hu).1
   simpa using this
  refine wpAny_pyNext_enum_itemD (ET.Iu (A:=X.A.in1) (I.ok.hd hc) it a hai its.toArray) he ⟨hit,pT⟩ hlt hne (by simp [hne,Ne.symm hae]) fun x' h1 tk hx' heo hst1 ht1 hz1 hk1=>?_
  have ex:x'=u:=by
   have:its.toArray[i]?=some u:=by simpa using hu
   exact Option.some.inj (hx'.symm.trans this)
  subst ex
  refine ⟨_,rfl,wpAny_letOwnedTupleGo_enum heo fun h2 he2 hs2=>?_⟩
  have hs2':Heap.SameBut e h1 h2:=hs2
  have hel:e < s.heap.objs.size:=Heap.lt_size he
  have I1:Inv X pins σ (upd H s.heap.objs.size (.tup [.int (i:Nat),x])) { s with heap:=h2,toks:=tk+1 } :=
   I.turnedT (its:=[.int i tk,x']) (fun b o h1' h2' q=>hs2'.extBut b o h1' (hk1 b o h1' h2' q)) fe fi ⟨_,he⟩ ⟨_,hoi⟩ (.cons ⟨_,rfl⟩ (.cons ru .nil)) (by show 2≤sizeLine; decide) ((hs2'.2 _ (Nat.ne_of_gt hel)).trans ht1)
  refine ⟨.ref s.heap.objs.size,_,I1,rfl,⟨s.heap.objs.size,x,rfl,I.fresh,rfl,fun ys hy=>by rw [I.tuple_inj hy hq]; exact hx⟩,⟨⟨x',?_⟩,hst1.1.extBut hs2'.extBut (Ne.symm hne)⟩,fun b hb=>?_⟩
  ·have e3:(((i+1:Nat)):Int)=(i:Int)+1:=by push_cast; rfl
   rw [e3]
   exact he2
  ·have hb':b=e∨b=it:=by simpa using hb
   have hbl:b≠s.heap.objs.size:=by
    rcases hb' with rfl | rfl
    ·exact Nat.ne_of_lt (Heap.lt_size he)
    ·exact Nat.ne_of_lt (Heap.lt_size hoi)
   rw [aM hbl]
   exact (hf b hb).1
 done:=by
  intro X hP hw hK hc i pins s σ H E I hf st hg
  subst hP hw hK
  obtain ⟨xs,hq,hx⟩:=hg
  obtain ⟨its,rv,p,hz⟩:=I.tuple hq
  obtain ⟨⟨old,he⟩,hit⟩:=st
  obtain ⟨f0,f1,f2,f3,f4,f5⟩:=hf it (by simp)
  have hl:=rv.length
  have pT:s.heap.IsTuple a its.toArray:=p
  exact ET.xU (I.ok.hd hc) he hit pT (by simp; omega) fun h' eb=>⟨rfl,I.turned (t':=s.toks) (fun b o hb e=>eb b o hb e) f0 f1 f3 f4 f5⟩
 self:=fun A i s Q E st h=>by
  obtain ⟨⟨old,he⟩,hit⟩:=st
  exact wpAny_pyIter_enum he h
def Ir (K:PySem.W.Frag) (ta:TA):TI:=fun σ H R=>ta σ H fun vs H1=>∃ a,vs=[.ref a]∧(∃ xs,SqT K H1 a xs)∧R (G8 K a) H1
theorem nU {X:Cx} {elts:List Expr} {k1:Nat} {p1:Pos} {a:Expr} {ta:TA} {p pos:Pos} (hg:Gl X "enumerate") (hm:X.mg "enumerate" = none) (ha:PA X [a] ta) (hs:starEach [a] X.env=[(false,eval a X.env)]:=by rfl)
  (hb:bootBuiltins "enumerate" = some (.type "enumerate"):=by first | exact boot_enumerate | exact PySem.boot_enumerate | rfl):PI X (.Tuple elts k1 p1) (.Call (.Name "enumerate" p) [a] [] pos) (Ir X.K ta):=by
 intro pins s σ H R I h
 refine Call_ (jT I hg hm hb (PyProof.Rows.callWith_type1 (thn (ha pos pins s σ H _ I h) fun us s1 ⟨vs,H1,I1,r1,q1⟩=>?_) hs rfl))
 obtain ⟨l,e,⟨xs,hq⟩,q⟩:=q1
 subst e
 cases r1 with
 | cons r rr =>
  cases rr
  cases r
  obtain ⟨its,rv,pl,hz⟩:=I1.tuple hq
  have pT:s1.heap.IsTuple l its.toArray:=pl
  have hll:l < s1.heap.objs.size:=by
   obtain ⟨o,ho,_⟩:=pT
   exact Heap.lt_size ho
  refine ET.u0 pT fun h' he hit hk=>?_
  refine wpAny_pyIter_enum he ?_
  have I2:Inv X pins σ H1 { s1 with heap:=h' }:=I1.kept (t':=s1.toks) hk
  refine ⟨s1.heap.objs.size+1,[s1.heap.objs.size+1,s1.heap.objs.size],_,_,H1,rfl,I2,vC l _ _ (Nat.succ_ne_self _) (Nat.ne_of_lt (Nat.lt_succ_of_lt hll)) (Nat.ne_of_lt hll),⟨⟨_,he⟩,hit⟩,fun b hb=>?_,q⟩
  have hb':b=s1.heap.objs.size+1∨b=s1.heap.objs.size:=by simpa using hb
  rcases hb' with rfl | rfl
  ·exact I1.fpOk (Nat.le_succ _) (I1.hok.fresh (Nat.le_succ _))
  ·exact I1.fpOk (Nat.le_refl _) (I1.hok.fresh (Nat.le_refl _))
theorem oO {K:PySem.W.Frag} {a:Addr} {xs:List V} {g:TG} {tb:TS} {D:Ends} {σ:St} {H:Hp} (Pv:Nat→St→Hp→Prop) (h0:Pv 0 σ H) (hl:∀ i σ H,i≤xs.length→Pv i σ H→SqT K H a xs)
  (hs:∀ i x t σ H,xs[i]?=some x→Pv i σ H→H t=none→g (.ref t) σ (upd H t (.tup [.int (i:Nat),x])) fun σ2 H2=>tb { D with nx:=Pv (i+1),ct:=Pv (i+1),bk:=D.nx } σ2 H2) (hd:∀ σ H,Pv xs.length σ H→D.nx σ H) :
  ∃ W:Nat→Nat→St→Hp→Prop,(∃ m,W 0 m σ H)∧∀ i m σ H,W i m σ H →
   ((G8 K a).stop i H∧D.nx σ H)∨((G8 K a).go i H∧∃ N:St→Hp→Prop,(∀ σ' H',N σ' H'→∃ m',m' < m∧W (i+1) m' σ' H')∧∀ x H',(G8 K a).yld i H x H'→g x σ H' fun σ2 H2=>tb { D with nx:=N,ct:=N,bk:=D.nx } σ2 H2):=by
 refine ⟨fun i m σ H=>m=xs.length - i∧i≤xs.length∧Pv i σ H,⟨xs.length,by simp,Nat.zero_le _,h0⟩,?_⟩
 rintro i m σ H ⟨rfl,hi,p⟩
 have q:=hl i σ H hi p
 by_cases hlt:i < xs.length
 ·refine .inr ⟨⟨xs,xs[i],q,by simp [hlt]⟩,Pv (i+1),fun σ' H' p'=>⟨xs.length - (i+1),by omega,rfl,hlt,p'⟩,fun v H' y=>?_⟩
  obtain ⟨t,x,rfl,ht,rfl,y⟩:=y
  exact hs i x t σ _ (y xs q) p ht
 ·have e:i=xs.length:=by omega
  subst e
  exact .inl ⟨⟨xs,q,Nat.le_refl _⟩,hd σ H p⟩
theorem jx {prog:Program} {w:World} {A:Around} {E:Value→Shared→Prop} {s:Shared} {t sl:Addr} {items:Array Value} {vl vu:Value} {lo hi:Option Int} {Q:Value→Shared→Prop} (ht:IsTup s.heap t items) (hs:s.heap.IsSliceOf sl vl vu .none) (pl:IsPart vl lo) (pu:IsPart vu hi)
  (hw:HT.sIx items.size 0 lo=0∧HT.sIx items.size items.size hi=items.size) (h:Q (.ref t) s):wpAny (model prog w) A (getItem (.ref t) (.ref sl)) Q E s:=by
 obtain ⟨os,hos,hcs,hds⟩:=id hs
 have hTs:s.TypeIs (.ref sl) "slice":=⟨os,hos,hcs⟩
 unfold getItem
 try with_reducible refine wpAny_holding ?_
 first | refine wpAny_bind (wpAny_pure ?_) | skip
 refine wpAny_bind (wpAny_sequenceKey ht.typeIs (by decide) ?_)
 refine wpAny_bind (wpAny_callSpecial?_slot (name:=Str.ofString "__getitem__") ht.typeIs PyProof.Rows.slot_tuple_getitem
  (wpAny_call_entry PyProof.Rows.slot_tuple_getitem ht.typeIs PyProof.Rows.entry_tuple_getitem ?_ (PyProof.Rows.args_tuple_getitem _ _)))
 show wpAny _ _ (Builtin.Tuple.tupleItemsOf (.ref t) >>= _) _ _ s
 refine wpAny_bind (PyProof.Rows.tupleItemsOf_ ht ?_)
 refine wpAny_bind (wpAny_typeOf hTs ?_)
 rw [if_pos (by decide)]
 refine wpAny_bind (HT.gD hs pl pu ?_)
 have hno:(((HT.sIx items.size 0 lo:Nat):Int) == 0 && (1:Int) == 1 && (HT.sIx items.size items.size hi - HT.sIx items.size 0 lo) == items.size)=true:=by
  rw [hw.1,hw.2]
  simp
 show wpAny _ _ (if (((HT.sIx items.size 0 lo:Nat):Int) == 0 && (1:Int) == 1 && (HT.sIx items.size items.size hi - HT.sIx items.size 0 lo) == items.size)=true then _ else _) _ _ s
 rw [if_pos hno]
 refine wpAny_bind (m:=Builtin.Tuple.tupleIsExact _) (wpAny_bind (wpAny_typeOf ht.typeIs (wpAny_pure ?_)))
 rw [if_pos (by decide)]
 exact wpAny_bind (wpAny_rule (wpAny_pure ⟨_,rfl,wpAny_pure h⟩))
def J4 (K:PySem.W.Frag):V→Option Int→Option Int→Hp→VK→Prop:=fun x lo hi H Q=>∃ a xs,x=.ref a∧H a=some (.tup xs)∧∀ (p:Addr) (H':Hp),Same H H'→H' p=some (.tup (jl xs lo hi))→Q (.ref p) H'
theorem rO {X:Cx}:SlR X (J4 X.K):=by
 intro pins s σ H x v vl vu lo hi sl Q I rx hs pl pu h
 obtain ⟨a,xs,rfl,hx,q⟩:=h
 by_cases hw:HT.sIx xs.length 0 lo=0∧HT.sIx xs.length xs.length hi=xs.length
 ·cases rx
  obtain ⟨its,r,ht,hz⟩:=I.tuple (SqT.of hx)
  have hlen:its.toArray.size=xs.length:=by rw [List.size_toArray]; exact r.length.symm
  refine ⟨"tuple",_,PyProof.Rows.slot_tuple_getitem.lookup,ht.typeIs,?_⟩
  refine jx ht hs pl pu (by rw [hlen]; exact hw) ⟨.ref a,H,I,rfl,q a H (Same.refl H) ?_⟩
  rw [hx]
  unfold jl
  rw [hw.1,hw.2,List.drop_zero,Nat.sub_zero,List.take_length]
 ·exact HX pins s σ H _ v vl vu lo hi sl Q I rx hs pl pu ⟨a,xs,rfl,SqT.of hx,hw,fun p hp=>q p _ (aq hp _) ak⟩
end L2
namespace L2
open PySem PySem.Spec PyProof.Rows
def M9:R2:=fun x y H Q=>∃ (l b:Addr) (xs:List V),x=.ref l∧y=.ref b∧H l=some (.lst xs)∧H b=some (.lst [])∧Q (.bl (!xs.isEmpty)) H
theorem JG {X:Cx} (hu:X.A.units < cLine):OpR X (compareOp .NotEq) M9:=by
 intro pins s σ H x y v u Q I rx ry h
 obtain ⟨l,b,xs,rfl,rfl,hl,hb,q⟩:=h
 cases rx
 cases ry
 obtain ⟨its,r1,p1,_⟩:=I.list (SqL.of (K:=X.K) hl)
 obtain ⟨its2,r2,p2,_⟩:=I.list (SqL.of (K:=X.K) hb)
 cases r2
 cases r1 with
 | nil=>exact SeqAt.RcNeAt.lists (e:=fun _=>true) p1.isList p2.isList rfl hu (fun j h1 _=>absurd h1 (Nat.not_lt_zero j)) X.prog X.w _ _ ⟨.bl false,H,I,rfl,q⟩
 | cons _ _=>exact SeqAt.RcNeAt.lists_lengths p1.isList p2.isList (by simp) hu X.prog X.w _ _ ⟨.bl true,H,I,rfl,q⟩
def Ko (ta:TA):TI:=fun σ H R=>ta σ H fun vs H1=>∃ (a:Int) (n:Nat),vs=[.int a,.int (-1),.int (-1)]∧a=(n:Int) - 1∧n≤1000000∧R (Itd a n) H1
theorem pJ {X:Cx} {tg a b c:Expr} {ta:TA} {p pos:Pos} (hg:Gl X "range") (hm:X.mg "range" = none) (ha:PA X [a,b,c] ta) (hs:starEach [a,b,c] X.env=(false,eval a X.env) :: starEach [b,c] X.env:=by rfl) (hpl:(backTo pos (starEach [b,c] X.env)).any (·.1)=false:=by rfl) :
  PI X tg (.Call (.Name "range" p) [a,b,c] [] pos) (Ko ta):=by
 intro pins s σ H R I h
 refine Call_ (jT I hg hm boot_range (PyProof.Rows.callWith_type1 (thn (ha pos pins s σ H _ I h) fun us s1 ⟨vs,H1,I1,r1,z,n,e,en,hn,q⟩=>?_) hs hpl))
 subst e
 cases r1 with
 | cons r rr =>
  obtain ⟨u,u',rfl,⟨t2,rfl⟩,⟨t3,rfl⟩⟩:=vals2 rr
  obtain ⟨t1,rfl⟩:=r
  refine call_range_3 (by decide) ?_
  have hsz:Builtin.Range.rangeSize z (-1) (-1)=(n:Int):=by
   unfold Builtin.Range.rangeSize
   rw [if_neg (by decide)]
   split
   ·have:z - -1 - 1=z:=by omega
    rw [this,show (-(-1:Int))=1 from rfl,Int.ediv_one]
    omega
   ·omega
  refine wpAny_pyIter_range (IsRange.new ..) ?_ ?_
  ·unfold Builtin.Range.small
   rw [hsz]
   simp [Builtin.Range.rangeFitsLong]
   omega
  have I2:Inv X pins σ H1 { s1 with heap:=s1.heap.push { cls:=.type "range",data:=.fields #[.int z t1,.int (-1) t2,.int (-1) t3] },toks:=s1.toks }:=I1.kept fun b o e=>Heap.get?_push_of_some _ e
  rw [hsz]
  refine ⟨_,[(s1.heap.push { cls:=.type "range",data:=.fields #[.int z t1,.int (-1) t2,.int (-1) t3] }).objs.size],_,_,H1,rfl,I2.kept (t':=s1.toks) fun b o e=>Heap.get?_push_of_some _ e,wQ _ z n,?_,fun b hb=>?_,q⟩
  ·have:=Heap.get?_push_size (s1.heap.push { cls:=.type "range",data:=.fields #[.int z t1,.int (-1) t2,.int (-1) t3] }) (o:={ cls:=.type "range_iterator",data:=.fields #[rawInt z,rawInt (n:Int),rawInt (-1)] }) rfl
   simpa [IsRangeIter] using this
  ·have e:b=(s1.heap.push { cls:=.type "range",data:=.fields #[.int z t1,.int (-1) t2,.int (-1) t3] }).objs.size:=by simpa using hb
   subst e
   exact I2.fpOk (Nat.le_refl _) (I2.hok.fresh (Nat.le_refl _))
end L2
namespace DR
open PySem PySem.W
open Sem (wp)
def Raw (g:Heap) (d:Addr) (es:Array DictEntry) (ep:Nat):Prop:=∃ o,g.get? d=some o∧o.ExactDict∧o.data=.dict es ep
section
variable {prog:Program} {w:World} {A:Around} {E:Value→Shared→Prop} {s:Shared} {it dd:Addr} {es:Array DictEntry} {i ep:Nat}
theorem Raw.typeIs (r:Raw s.heap dd es ep):s.TypeIs (.ref dd) "dict":=by
 obtain ⟨o,eo,ec,ed⟩:=r
 exact ⟨o,eo,ec.1⟩
theorem Raw.at {g g':Heap} (r:Raw g dd es ep) (k:∀ o,g.get? dd=some o→g'.get? dd=some o):Raw g' dd es ep:=by
 obtain ⟨o,eo,x⟩:=r
 exact ⟨o,k o eo,x⟩
end
end DR
namespace L2
open PySem PySem.Spec PyProof.Rows
def Ep:R2:=fun x y H Q=>∃ (b l:Addr) (us:List V) (ps:List (Str × Str)) (p:Str × Str),x=.ref b∧y=.ref l∧H l=some (.lst us)∧H b=some (.tup [.str p.1,.str p.2])∧us.length=ps.length ∧
 (∀ (i:Nat) (u:V) (q:Str × Str),us[i]?=some u→ps[i]?=some q→∃ a:Addr,u=.ref a∧H a=some (.tup [.str q.1,.str q.2]))∧Q (.bl (!decide (p∈ps))) H
theorem yh {X:Cx} {pins:List (Addr × Obj)} {σ:St} {H:Hp} {s:Shared} {A:Around} {a b:Addr} {p q:Str × Str} (I:Inv X pins σ H s) (hu:A.units < cLine) (ha:H a=some (.tup [.str q.1,.str q.2])) (hb:H b=some (.tup [.str p.1,.str p.2])) :
  SeqAt.EqAt A s (.ref a) (.ref b) (decide (q=p)):=by
 by_cases hab:a=b
 ·subst hab
  rw [ha] at hb
  have e:q=p:=by
   injection hb with hb
   injection hb with hb
   injection hb with h1 h2
   injection h1 with h1
   injection h2 with h2
   injection h2 with h2
   exact Prod.ext h1 h2
  rw [decide_eq_true e]
  exact SeqAt.EqAt.same _
 ·obtain ⟨its,r1,p1,_⟩:=I.tuple (SqT.of (K:=X.K) ha)
  obtain ⟨its2,r2,p2,_⟩:=I.tuple (SqT.of (K:=X.K) hb)
  obtain ⟨u1,u2,rfl,⟨t1,rfl⟩,⟨t2,rfl⟩⟩:=vals2 r1
  obtain ⟨v1,v2,rfl,⟨t3,rfl⟩,⟨t4,rfl⟩⟩:=vals2 r2
  have key:=SeqAt.EqAt.of_refs hab (SeqAt.RcAt.tuples (A:=A) (s:=s) (e:=fun j=>if j=0 then q.1 == p.1 else q.2 == p.2) p1 p2 hu fun j h1 h2=>?_)
  ·have e:((List.range (min ([.str q.1 t1,.str q.2 t2]:List Value).toArray.size ([.str p.1 t3,.str p.2 t4]:List Value).toArray.size)).all (fun j=>if j=0 then q.1 == p.1 else q.2 == p.2) && ([.str q.1 t1,.str q.2 t2]:List Value).toArray.size == ([.str p.1 t3,.str p.2 t4]:List Value).toArray.size)=decide (q=p):=by
    show ((List.range 2).all _ && (2:Nat) == 2)=_
    rw [Bool.eq_iff_iff]
    simp [List.range_succ,Prod.ext_iff]
   rw [← e]
   exact key
  ·match j,h1,h2 with
   | 0,_,_=>exact SeqAt.EqAt.str_str q.1 t1 p.1 t3
   | 1,_,_=>exact SeqAt.EqAt.str_str q.2 t2 p.2 t4
   | j+2,h1,_ =>
    have h1':j+2 < 2:=h1
    omega
open Classical in
theorem vU {X:Cx} (hu:X.A.units+1 < cLine):OpR X (compareOp .NotIn) Ep:=by
 intro pins s σ H x y v u Q I rx ry h
 obtain ⟨b,l,us,ps,p,rfl,rfl,hl,hb,hlen,hat,q⟩:=h
 cases rx
 cases ry
 obtain ⟨its,r,pl,hz⟩:=I.list (SqL.of (K:=X.K) hl)
 have hil:=r.length
 have hel:∀ w∈its,∃ (a:Addr) (c:Str × Str),w=.ref a∧H a=some (.tup [.str c.1,.str c.2])∧c∈ps:=fun w hw=>by
  obtain ⟨i,hi,rfl⟩:=List.getElem_of_mem hw
  have hui:us[i]?=some us[i]:=List.getElem?_eq_getElem (by omega)
  have hpi:ps[i]?=some ps[i]:=List.getElem?_eq_getElem (by omega)
  obtain ⟨a,e1,e2⟩:=hat i _ _ hui hpi
  obtain ⟨w',hw',rw'⟩:=r.get hui
  rw [e1] at rw'
  cases rw'
  rw [List.getElem?_eq_getElem hi] at hw'
  exact ⟨a,ps[i],Option.some.inj hw',e2,List.getElem_mem _⟩
 have tinj:∀ {c d:Str × Str} {a:Addr},H a=some (.tup [.str c.1,.str c.2])→H a=some (.tup [.str d.1,.str d.2])→c=d:=fun {c d a} h1 h2=>by
  rw [h1] at h2
  injection h2 with h2
  injection h2 with h2
  injection h2 with a1 a2
  injection a1 with a1
  injection a2 with a2
  injection a2 with a2
  exact Prod.ext a1 a2
 refine SeqAt.notIn_listAt (fun w=>decide (∃ a:Addr,w=.ref a∧H a=some (.tup [.str p.1,.str p.2]))) pl.isList (fun w hw=>?_) ⟨.bl _,H,I,rfl,?_⟩
 ·obtain ⟨a,c,rfl,ha,_⟩:=hel w (by simpa using hw)
  have e:decide (∃ a':Addr,Value.ref a=.ref a'∧H a'=some (.tup [.str p.1,.str p.2]))=decide (c=p):=by
   rw [decide_eq_decide]
   constructor
   ·rintro ⟨a',e1,e2⟩
    cases e1
    exact tinj ha e2
   ·rintro rfl
    exact ⟨a,rfl,ha⟩
  rw [e]
  exact yh I (by first | exact hu | (simp only [Around.in1]; omega) | omega) ha hb
 ·have e:its.toArray.any (fun w=>decide (∃ a:Addr,w=.ref a∧H a=some (.tup [.str p.1,.str p.2])))=decide (p∈ps):=by
   rw [List.any_toArray,Bool.eq_iff_iff,List.any_eq_true,decide_eq_true_eq]
   constructor
   ·rintro ⟨w,hw,hd⟩
    obtain ⟨a,rfl,ha⟩:=of_decide_eq_true hd
    obtain ⟨a',c,e1,e2,e3⟩:=hel _ hw
    cases e1
    rw [tinj ha e2]
    exact e3
   ·intro hp
    obtain ⟨i,hi,ei⟩:=List.getElem_of_mem hp
    have hui:us[i]?=some us[i]:=List.getElem?_eq_getElem (by omega)
    obtain ⟨a,e1,e2⟩:=hat i _ _ hui (List.getElem?_eq_getElem hi)
    obtain ⟨w',hw',rw'⟩:=r.get hui
    rw [e1] at rw'
    cases rw'
    refine ⟨.ref a,List.mem_of_getElem? hw',decide_eq_true ⟨a,rfl,?_⟩⟩
    rw [← ei]
    exact e2
  rw [e]
  exact q
end L2
namespace SX
open PySem PySem.Spec PyProof.Rows
def have_ {K:Type} [DecidableEq K] (val:Nat→K) (i:Nat) (k:K):Bool:=((List.range i).map val).any fun y=>decide (y=k)
theorem xu {K:Type} [DecidableEq K] (val:Nat→K) (i:Nat) (k:K):have_ val (i+1) k=(have_ val i k || decide (k=val i)):=by
 unfold have_
 rw [List.range_succ,List.map_append,List.any_append]
 congr 1
 simp [eq_comm]
def many {K:Type} [DecidableEq K] (val:Nat→K):Nat→Nat
 | 0=>0
 | i+1=>if have_ val i (val i)=true then many val i else many val i+1
theorem qR {K:Type} [DecidableEq K] (val:Nat→K):∀ i,many val i≤i
 | 0=>Nat.le_refl _
 | i+1=>by
  have:=qR val i
  unfold many
  split <;> omega
section
variable {prog:Program} {w:World} {A:Around} {R:Result→Shared→Prop} {I:Addr} {fp wr:List Addr} {G:Array GenState→Array GenState→Prop} {n:Nat} {P:Nat→Value→Prop} {St:Nat→Shared→Prop} {K:Type} [DecidableEq K] {knd:KeyKind prog w K}
theorem fill (W:WalksS prog w A.in1 I fp wr G n P St) (S:Addr) (nf:S ∉ fp) (val:Nat→K) (hv:∀ i v,P i v→knd.is (val i) v=true∧v.scannable=true) (room:n+1 < scanBound) :
  ∀ (k i:Nat) (s:Shared),n - i=k→i≤n→St i s→s.heap.SetOf knd S (have_ val i) (many val i)→(∀ s',Moved (S :: wr) G s s'→s'.heap.SetOf knd S (have_ val n) (many val n)→R (.ok (.ret .none)) s') →
   codeAny (model prog w) A (.builtin "set.update.loop" ⟨[.ref S,.ref I],[]⟩) R s:=by
 have nw:S ∉ wr:=fun z=>nf (W.sub _ z)
 have sub:∀ b∈wr,b∈S :: wr:=fun b z=>List.mem_cons_of_mem _ z
 intro k
 induction k with
 | zero =>
  intro i s ek le st hS q
  have e:i=n:=by omega
  subst e
  refine codeAny_builtin F.entry_set_update_loop ?_
  rw [Around.under_plainId F.plain_set_update_loop _]
  show wpAny _ A.in1 (pyNext (.ref I) >>= _) _ _ _
  refine wpAny_bind (W.done s _ _ st fun s' mv=>?_)
  show wpAny _ A.in1 (ret Value.none) _ _ _
  refine wpAny_pure (q s' (mv.mono sub) ?_)
  obtain ⟨o,es,ep,t,eo,rest⟩:=hS
  exact ⟨o,es,ep,t,mv.heap S _ nw eo,rest⟩
 | succ k ih =>
  intro i s ek le st hS q
  have lt:i < n:=by omega
  refine codeAny_builtin F.entry_set_update_loop ?_
  rw [Around.under_plainId F.plain_set_update_loop _]
  show wpAny _ A.in1 (pyNext (.ref I) >>= _) _ _ _
  refine wpAny_bind (W.item i s _ _ lt st fun v s' hP st' mv=>?_)
  obtain ⟨hk,hsc⟩:=hv i v hP
  have hS':s'.heap.SetOf knd S (have_ val i) (many val i):=by
   obtain ⟨o,es,ep,tb,eo,rest⟩:=hS
   exact ⟨o,es,ep,tb,mv.heap S _ nw eo,rest⟩
  show wpAny _ A.in1 (holding [v] (setAdd S v) >>= _) _ _ _
  refine wpAny_bind (wpAny_holding ?_)
  unfold setAdd
  refine wpAny_holding (wpAny_bind (knd.pyHash hk ?_))
  refine wpAny_setAddHashed_of (knd:=knd) (s:={ s' with toks:=s'.toks+1 }) hk hsc hS' (Nat.lt_of_le_of_lt (Nat.succ_le_succ (qR val i)) (by omega)) fun g sb hS2=>?_
  have hSi:g.SetOf knd S (have_ val (i+1)) (many val (i+1)):=by
   have e:(fun k'=>have_ val i k' || decide (k'=val i))=have_ val (i+1):=funext fun k'=>(xu val i k').symm
   rw [← e]
   exact hS2
  refine wpAny_pure ⟨plainId_quiet F.plain_set_update_loop _,ih (i+1) _ (by omega) lt (W.frame _ s' _ _ st' (Nat.le_succ _) fun b hb o e=>?_) hSi fun s'' mv2 hS''=>?_⟩
  ·rw [sb.2 b fun z=>nf (z ▸ hb)]
   exact e
  ·refine q s'' (Moved.trans W.gtrans ((mv.mono sub).then_heap (Nat.le_succ _) fun b o hb e=>?_) mv2) hS''
   rw [sb.2 b fun z=>hb (by rw [z]; exact List.mem_cons_self)]
   exact e
end
set_option maxHeartbeats 6400000 in
theorem call_set_list {prog:Program} {w:World} {A:Around} {E:Value→Shared→Prop} {s:Shared} {K:Type} [DecidableEq K] {knd:KeyKind prog w K} {l:Addr} {items:Array Value} {val:Nat→K} {Q:Value→Shared→Prop}
  (hd:A.handled=none) (tl:s.heap.IsList l items) (hv:∀ i v,items[i]?=some v→knd.is (val i) v=true∧v.scannable=true) (room:items.size+1 < scanBound)
  (q:∀ (g:Heap) (tk:Nat),g.SetOf knd s.heap.objs.size (have_ val items.size) (many val items.size)→(∀ b o,b < s.heap.objs.size→s.heap.get? b=some o→g.get? b=some o)→Q (.ref s.heap.objs.size) { s with heap:=g,toks:=tk }) :
  wpAny (model prog w) A (call (.type "set") [.ref l]) Q E s:=by
 obtain ⟨c,tl',hmro⟩:=PySem.F.called_set.mro
 have hmade:=PySem.F.called_set.made
 have hsub:=PySem.F.called_set.sub
 refine wpAny_call (codeAny_of_tree ?_)
 show wpAny _ _ (callAny (.type "set") _) _ _ _
 refine wpAny_pure ⟨Code.quiet_builtin _ (by decide +kernel),codeAny_builtin PySem.F.entry_type_call ?_⟩
 rw [Around.under_plain (weight_type_call_type "set" [.ref l] []) rfl]
 have h1:=PySem.F.called_set.notType
 have h2:=PySem.F.called_set.canCreate
 have hct:=PySem.F.typeCall_set_1 (.ref l)
 repeat (any_goals (first | assumption | wp_step))
 refine codeAny_mono (code_set_new_1 (.ref l) (E:=E) (Q₁:=fun ob s₁=>∃ led:Bool,ob=.ref s.heap.objs.size∧s₁={ s with heap:=s.heap.push { cls:=.type "set",dict:=none,data:=.set #[] 0 (.fresh 0 0 led) } }) fun led=>⟨led,rfl,rfl⟩) fun r s₁ hr=>?_
 cases r with
 | error e=>exact hr
 | ok fl =>
  cases fl with
  | ret ob =>
   obtain ⟨led,rfl,rfl⟩:=hr
   have eS:(s.heap.push { cls:=.type "set",dict:=none,data:=.set #[] 0 (.fresh 0 0 led) }).get? s.heap.objs.size=some { cls:=.type "set",dict:=none,data:=.set #[] 0 (.fresh 0 0 led) }:=Heap.get?_push_size _ rfl
   have tS:Shared.TypeIs { s with heap:=s.heap.push { cls:=.type "set",dict:=none,data:=.set #[] 0 (.fresh 0 0 led) } } (.ref s.heap.objs.size) "set":=⟨_,eS,rfl⟩
   have hli:=PySem.F.called_set.init.lookup
   have hbi:=PySem.F.called_set.init.bind (.ref s.heap.objs.size)
   repeat (any_goals (first | assumption | wp_step))
   refine codeAny_mono (codeAny_call_builtin (R:=wants (fun r s₂=>r=.none∧∃ g tk,s₂={ s with heap:=g,toks:=tk }∧g.SetOf knd s.heap.objs.size (have_ val items.size) (many val items.size) ∧
     (∀ b o,b < s.heap.objs.size→s.heap.get? b=some o→g.get? b=some o)) E) PySem.F.called_set.init.plain PySem.F.entry_set_init (check_set_init_1 tS ?_)) fun r₂ s₂ hr₂=>?_
   ·obtain ⟨⟨oc,od,odt,osl⟩,eol,ecl,nl,edl⟩:=tl
    simp only at ecl edl
    subst ecl
    subst edl
    have eol':(s.heap.push { cls:=.type "set",dict:=none,data:=.set #[] 0 (.fresh 0 0 led) }).get? l=some { cls:=.type "list",dict:=od,data:=.seq items nl,slots:=osl }:=Heap.get?_push_of_some _ eol
    have hsls:=PySem.F.sub_list_set
    have hslf:=PySem.F.sub_list_frozenset
    have hne:(Value.type "list" == Value.type "dict")=false:=by decide
    have tl1:(s.heap.push { cls:=.type "set",dict:=none,data:=.set #[] 0 (.fresh 0 0 led) }).IsList l items:=⟨_,eol',rfl,nl,rfl⟩
    unfold Builtin.«set.__init__» noKeywords Builtin.Frozenset.updateFrom
    generalize hPI:pyIter=PI
    wp_walk
    subst hPI
    refine wpAny_pyIter_list tl1 (wpAny_bind (wpAny_runValue ?_))
    have lS:l < s.heap.objs.size:=Heap.lt_size eol
    have hd3:A.in1.in1.in1.handled=none:=by simp [hd]
    have neI:l≠(s.heap.push { cls:=.type "set",dict:=none,data:=.set #[] 0 (.fresh 0 0 led) }).objs.size:=by
     rw [Heap.size_push]
     exact Nat.ne_of_lt (Nat.lt_succ_of_lt lS)
    have nf:s.heap.objs.size ∉ [(s.heap.push { cls:=.type "set",dict:=none,data:=.set #[] 0 (.fresh 0 0 led) }).objs.size,l]:=by
     rw [Heap.size_push]
     simp only [List.mem_cons,List.mem_singleton,List.not_mem_nil,or_false,not_or]
     exact ⟨Nat.ne_of_lt (Nat.lt_succ_self _),Nat.ne_of_gt lS⟩
    refine fill ((Walks.list hd3 _ l neI items).toS) s.heap.objs.size nf val hv room (items.size - 0) 0 _ (by omega) (Nat.zero_le _) ⟨⟨_,Heap.get?_push_size _ rfl,rfl,rfl⟩,tl1.push _⟩ ?hS0 ?hR
    case hS0 =>
     have eg:((s.heap.push { cls:=.type "set",dict:=none,data:=.set #[] 0 (.fresh 0 0 led) }).push { cls:=.type "list_iterator",data:=.fields #[.ref l,.int 0 0] }).get? s.heap.objs.size=some { cls:=.type "set",dict:=none,data:=.set #[] 0 (.fresh 0 0 led) }:=Heap.get?_push_of_some _ eS
     exact (setObjOf_fresh (knd:=knd) led).setOf eg (by unfold scanBound; omega)
    case hR =>
     intro s' mv hS'
     obtain ⟨g,gg,d',tk',os'⟩:=s'
     have e1:gg=s.gens:=mv.gens
     have e2:d'=s.drawn:=mv.drawn
     have e3:os'=s.os:=mv.os
     subst e1
     subst e2
     subst e3
     show wpAny _ _ _ _ _ _
     refine wpAny_pure ?_
     show wpAny _ _ (ret Value.none) _ _ _
     refine wpAny_pure ⟨rfl,g,tk',rfl,hS',fun b o hb e=>?_⟩
     have hb2:b≠(s.heap.push { cls:=.type "set",dict:=none,data:=.set #[] 0 (.fresh 0 0 led) }).objs.size:=by
      rw [Heap.size_push]
      exact Nat.ne_of_lt (Nat.lt_succ_of_lt hb)
     exact mv.heap b o (by simp only [List.mem_cons,List.mem_singleton,List.not_mem_nil,or_false,not_or]; exact ⟨Nat.ne_of_lt hb,hb2⟩) (Heap.get?_push_of_some _ (Heap.get?_push_of_some _ e))
   ·cases r₂ with
    | error e=>exact hr₂
    | ok fl₂ =>
     cases fl₂ with
     | ret r =>
      obtain ⟨rfl,g,tk,rfl,hS',hk'⟩:=hr₂
      repeat (any_goals (first | assumption | wp_step))
      exact q _ _ hS' hk'
     | _=>exact hr₂.elim
  | _=>exact hr.elim
end SX
namespace L2
open PySem PySem.Spec PyProof.Rows
end L2
namespace L2
open PySem PySem.Spec PyProof.Rows
end L2
namespace ZZ
open PySem
open Sem (wp)
section
variable {prog:Program} {w:World} {A:Around} {E:Value→Shared→Prop} {s:Shared}
end
end ZZ
namespace L2
open PySem PySem.Spec PyProof.Rows
end L2
namespace L2
open PySem PySem.Spec PyProof.Rows
end L2
namespace L2
open PySem PySem.Spec PyProof.Rows
theorem Aq {X:Cx} {ix:Nat} {xn:Str} {pos' spos:Pos} {elt tg iter:Expr} {ifs:List Expr} {scope:Scope} {pos:Pos} {wi:TI} {g:TG} {tc:TT} {te:TE} (hN:X.N.Nodup) (hix:X.N[ix]?=some xn) (hxl:X.env.scope.names.lookup xn=some .local) (N:List Str) (lift:St→St) (hc:X.calm=true) (hi:PI X tg iter wi)
  (hkind:scope.kind=.function) (hcell:∀ y∈scope.names,y.2≠.cell) (hfree:∀ y∈scope.names,y.2=.free→X.env.kindOf y.1=some .cell∨X.env.kindOf y.1=some .free)
  (hnames:∀ y∈scope.names,y.2=.local→scope.names.lookup y.1=some .local)
  (hlen:∀ σ:St,σ.length=X.N.length→(lift σ).length=N.length)
  (hσ:∀ (σ:St) (i:Nat) (x:Str) (v:V),σ.length=X.N.length→N[i]?=some x→(lift σ)[i]?=some (some v)→scope.names.lookup x=some .free∧∃ j:Nat,X.N[j]?=some x∧σ[j]?=some (some v))
  (hg:∀ cl C s H ex pn E,PG (cJ X scope N cl C s H ex pn E) tg g) (ht:∀ cl C s H ex pn E,G5 (cJ X scope N cl C s H ex pn E) ifs tc) (he:∀ cl C s H ex pn E,PE (cJ X scope N cl C s H ex pn E) elt te)
  (hs:∀ x,foldedSetIterable iter X.env x=pure x) (hsw:swapsWith (.ListComp elt [⟨tg,iter,ifs,0⟩] scope pos) (some (.Name xn pos')) spos.line X.env=pure true) :
  PS X (.Assign [.Name xn pos'] (.ListComp elt [⟨tg,iter,ifs,0⟩] scope pos) spos) (JV (Al wi g tc te lift) (cO ix)):=by
 intro pins s σ H D I h
 rw [exec_Assign_Name_used _ _ _ _ hsw]
 refine wpAny_bind (wpAny_standAt (wpAny_bind ?_))
 suffices key:wpAny (model X.prog X.w) X.A (comprehension (.ListComp elt [⟨tg,iter,ifs,0⟩] scope pos) scope X.env (firstIterPos [⟨tg,iter,ifs,0⟩] pos) (newList []) (firstAsync [⟨tg,iter,ifs,0⟩]) (firstIter [⟨tg,iter,ifs,0⟩] X.env) (some (assign (.Name xn pos') X.env))) (fun _ s''=>∃ σ' H',Inv X pins σ' H' s''∧D.nx σ' H') X.xe s by
  show wpAny _ _ (comprehension _ _ _ _ _ _ _ _ >>= fun _=>pure ()) _ _ _
  exact wpAny_bind (thn key fun _ s' q=>wpAny_pure (wpAny_pure q))
 obtain ⟨cl,hclos,hcl1,hcl2⟩:=mL (scope:=scope) (env:=X.env) fun y hy hf=>I.ok.has y.1 (hfree y hy hf)
 refine wpAny_comprehension_free (use:=some (assign (.Name xn pos') X.env)) rfl hs hclos hkind hnames (thn (hi pins s σ H _ I h) fun v s1 h1=>thn h1 fun itv s2 h2=>?_)
 obtain ⟨it,fp,tn,J,H2,e,I2,T,st2,f2,q⟩:=h2
 subst e
 refine wpAny_newObj_type (wpAny_newFunctionEnv hcell (by intro y hy; simp at hy) (fun h₁ hns₁ hsb₁=>?_) hkind)
 have I3:Inv X pins σ (upd H2 s2.heap.objs.size (.lst [])) { s2 with heap:=s2.heap.push { cls:=.type "list",data:=.seq ([]:List Value).toArray } }:=I2.lnew (its:=[]) (t':=s2.toks) .nil (Nat.zero_le _)
 have fr:H2 s2.heap.objs.size=none:=I2.fresh
 have hold:∀ b o,(s2.heap.push { cls:=.type "list",data:=.seq ([]:List Value).toArray }).get? b=some o→h₁.get? b=some o:=fun b o e=>hsb₁.extBut b o (Nat.ne_of_lt (Heap.lt_size e)) (Heap.get?_push_of_some _ e)
 have f3:∀ b∈fp,vd X pins (upd H2 s2.heap.objs.size (.lst [])) b:=fun b hb=>by
  obtain ⟨o,eo,_⟩:=T.obj 0 _ st2 b hb
  exact ⟨by rw [aM (Nat.ne_of_lt (Heap.lt_size eo))]; exact (f2 b hb).1,(f2 b hb).2⟩
 have fo:∀ b∈fp,∃ o,(s2.heap.push { cls:=.type "list",data:=.seq ([]:List Value).toArray }).get? b=some o:=fun b hb=>by
  obtain ⟨o,eo,_⟩:=T.obj 0 _ st2 b hb
  exact ⟨o,Heap.get?_push_of_some _ eo⟩
 generalize hP:s2.heap.push { cls:=.type "list",data:=.seq ([]:List Value).toArray }=P at *
 obtain ⟨W,⟨m0,w0⟩,turn⟩:=q s2.heap.objs.size fr
 generalize hL:s2.heap.objs.size=L at *
 let R:Result→Shared→Prop:=compPost (model X.prog X.w) X.A X.xe (some (assign (.Name xn pos') X.env)) (fun _ s''=>∃ σ' H',Inv X pins σ' H' s''∧D.nx σ' H') (.ref L) P.objs.size
 let Y:Cx:=cJ X scope N cl P.objs.size { s2 with heap:=P } (upd H2 L (.lst [])) fp (X.pn++pins) (notedBy (model X.prog X.w) X.A (compEnvC scope cl P.objs.size X.env) fun e s'=>R (.error e) s')
 have IY:Inv Y [] (lift σ) (upd H2 L (.lst [])) { s2 with heap:=h₁,toks:=s2.toks+([]:List (Str × Value)).length } :=
  uG (s:={ s2 with heap:=P }) I3 hkind hcell hfree hcl1 hcl2 f3 fo (hlen σ I.len) (fun i x v=>hσ σ i x v I.len) hns₁ hold
 have stY:tn 0 h₁:=T.keep _ _ _ st2 fun b hb o e=>hold b o (by rw [← hP]; exact Heap.get?_push_of_some _ e)
 have fC:∀ b∈fp,b≠P.objs.size∧(b∈fp):=fun b hb=>by
  obtain ⟨o,eo⟩:=fo b hb
  exact ⟨Nat.ne_of_lt (Heap.lt_size eo),hb⟩
 have fpY:∀ {H':Hp},(∀ b∈fp,H' b=none)→∀ b∈fp,vd Y [] H' b:=fun {H'} hn b hb=>by
  refine ⟨hn b hb,(fC b hb).1,fun z=>?_,.inl hb,fun x c ex=>(f3 b hb).2.2.2.2.1 x c (hcl2 _ _ ex),fun p hp=>?_⟩
  ·rcases List.mem_cons.mp (I3.stkSub b z) with y | y
   ·exact (f3 b hb).2.1 y
   ·exact (f3 b hb).2.2.1 y
  ·have hp':p∈(X.pn++pins)++[]:=hp
   rw [List.append_nil] at hp'
   exact (f3 b hb).2.2.2.2.2 p hp'
 have loop:∀ s4:Shared,s4={ s2 with heap:=h₁,toks:=s2.toks+([]:List (Str × Value)).length } →
   codeAny (model X.prog X.w) X.A (.compLoop (.ListComp elt [⟨tg,iter,ifs,0⟩] scope pos) 0 (.ref it) (.ref L) (compEnvC scope cl P.objs.size X.env)) R s4:=by
  rintro s4 rfl
  refine eO (fun n s'=>∃ i σ' H',Inv Y [] σ' H' s'∧tn i s'.heap∧(∀ b∈fp,H' b=none)∧W i n σ' H') ?_ m0 ⟨0,_,_,IY,stY,fun b hb=>(f3 b hb).1,w0⟩
  rintro n s5 ⟨i,σ5,H5,I5,st5,fr5,w5⟩
  rcases turn i n σ5 H5 w5 with ⟨stop,qn⟩ | ⟨go,Nx,hNx,step⟩
  ·refine thn (T.done Y rfl rfl rfl hc i [] s5 σ5 H5 Y.xe I5 (fpY fr5) st5 stop) fun r s6 ⟨hr,I6⟩=>?_
   subst hr
   show R (.ok .next) s6
   obtain ⟨m6,hn6,_⟩:=id I6.loc
   have IX:Inv X pins σ H5 s6:=I3.call' (s':=s6) (ch:=fp) I6.os I6.base I6.hok I6.bare fun b hb=>⟨(f3 b hb).2.2.2.1,(f3 b hb).2.1,(f3 b hb).2.2.2.2.1,(f3 b hb).2.2.2.2.2⟩
   have nC:∀ x c,X.env.cells.lookup x=some c→c≠P.objs.size:=fun x c ec z=>by
    obtain ⟨v0,qv⟩:=I3.cell x c ec
    exact absurd qv.lt (by rw [z]; exact Nat.lt_irrefl _)
   have nP:∀ p∈X.pn++pins,p.1≠P.objs.size:=fun p hp z=>by
    have z0:=Heap.lt_size (I3.pin p hp).1
    exact absurd z0 (by rw [z]; exact Nat.lt_irrefl _)
   show wpAny _ _ (assign (.Name xn pos') X.env (.ref L)) _ _ _
   refine wpAny_assign_Name (qD IX hN hix (.inl hxl) (v:=.ref L) rfl (fun s7 I7 hsb=>?_) (.inr hxl))
   obtain ⟨a7,sb7,ha7⟩:=hsb
   have na7:P.objs.size≠a7:=by
    rcases ha7 with z | z
    ·rw [z]
     exact Nat.ne_of_gt I3.lt
    ·exact (nC _ _ z).symm
   refine ⟨m6,hn6.at' fun o e=>(sb7.2 _ na7).trans e,fun h' sb=>⟨_,H5,I7.turned (t':=s7.toks) (it:=P.objs.size) (fun b o hb e=>(sb.2 b hb).trans e) I6.free (Nat.ne_of_gt I3.lt) (.inr I3.sz) nC nP,qn⟩⟩
  ·refine thn (T.item Y rfl rfl rfl hc i [] s5 σ5 H5 Y.xe I5 (fpY fr5) st5 go) fun r s6 ⟨u,hr,h6⟩=>?_
   subst hr
   refine thn h6 fun _ s7 ⟨x,H7,I7,r7,y7,st7,fr7⟩=>?_
   have I7':=I7.pinned (fpY fr7) (T.obj _ _ st7)
   refine thn (hg _ _ _ _ _ _ _ _ s7 σ5 H7 x u _ I7' r7 (step x H7 y7)) fun _ s8 ⟨σ8,H8,I8,q8⟩=>?_
   refine thn (ht _ _ _ _ _ _ _ _ s8 σ8 H8 _ I8 q8) fun ok s9 ⟨H9,I9,q9⟩=>?_
   have again:∀ {sx:Shared} {Hx:Hp},Inv Y ([]++mC fp s7.heap) σ8 Hx sx→Nx σ8 Hx→∃ m,m < n∧∃ i σ' H',Inv Y [] σ' H' sx∧tn i sx.heap∧(∀ b∈fp,H' b=none)∧W i m σ' H':=fun {sx Hx} Ix nx=>by
    obtain ⟨m',hm,wx⟩:=hNx σ8 Hx nx
    refine ⟨m',hm,i+1,σ8,Hx,Ix.unpinned,T.keep _ _ _ st7 fun b hb o e=>(Ix.pin (b,o) (List.mem_append_right _ (List.mem_append_right _ (fj hb e)))).1,fun b hb=>?_,wx⟩
    obtain ⟨o,e,d⟩:=T.obj _ _ st7 b hb
    exact (Ix.pin (b,o) (List.mem_append_right _ (List.mem_append_right _ (fj hb e)))).2.1
   cases ok with
   | false =>
    rw [if_neg Bool.false_ne_true] at q9 ⊢
    exact again I9 q9
   | true =>
    rw [if_pos rfl] at q9 ⊢
    refine thn (he _ _ _ _ _ _ _ _ s9 σ8 H9 _ I9 q9) fun y s10 ⟨v10,H10,I10,r10,ys,hys,hz,q10⟩=>?_
    refine thn (cH (X:=Y) _ s10 σ8 H10 (.ref L) [v10] (.ref L) [y] (fun _ H'=>Nx σ8 H') I10 rfl (.cons r10 .nil) ⟨L,ys,v10,rfl,rfl,hys,hz,q10⟩) fun _ s11 ⟨_,H11,I11,_,q11⟩=>?_
    exact again I11 q11
 exact codeAny_compStart_list (loop _ rfl) (T.self X.A 0 _ _ _ stY (loop _ rfl))
theorem lE {X:Cx} {ix:Nat} {xn:Str} {pos' spos:Pos} {elt tg iter:Expr} {ifs:List Expr} {scope:Scope} {pos:Pos} {wi:TI} {g:TG} {tc:TT} {te:TE} (hN:X.N.Nodup) (hix:X.N[ix]?=some xn) (hxl:X.env.scope.names.lookup xn=some .local) (XN:List Str) (sc:Scope) (N:List Str) (js:List (Option Nat)) (hXN:X.N=XN) (hsc:X.env.scope=sc) (hc:X.calm=true) (hi:PI X tg iter wi)
  (hkind:scope.kind=.function) (hchk:ju N js XN scope.names=true) (hcell:∀ y∈scope.names,y.2≠.cell) (hfree:∀ y∈scope.names,y.2=.free→sc.names.lookup y.1=some .cell∨sc.names.lookup y.1=some .free)
  (hnames:∀ y∈scope.names,y.2=.local→scope.names.lookup y.1=some .local)
  (hg:∀ cl C s H ex pn E,PG (cJ X scope N cl C s H ex pn E) tg g) (ht:∀ cl C s H ex pn E,G5 (cJ X scope N cl C s H ex pn E) ifs tc) (he:∀ cl C s H ex pn E,PE (cJ X scope N cl C s H ex pn E) elt te)
  (hs:∀ x,foldedSetIterable iter X.env x=pure x:=by intro _; rfl) (hsw:swapsWith (.ListComp elt [⟨tg,iter,ifs,0⟩] scope pos) (some (.Name xn pos')) spos.line X.env=pure true:=by rfl) :
  PS X (.Assign [.Name xn pos'] (.ListComp elt [⟨tg,iter,ifs,0⟩] scope pos) spos) (JV (Al wi g tc te (jW js)) (cO ix)):=by
 subst hXN
 subst hsc
 exact Aq hN hix hxl N (jW js) hc hi hkind hcell hfree hnames (fun σ _=>zX hchk σ) (fun σ i x v _ h1 h2=>Dc hchk σ i x v h1 h2) hg ht he hs hsw
end L2
set_option maxHeartbeats 1000000
namespace SO
open PySem PySem.W PyProof.Rows
variable {O:KeyOrd} {key:Nat→O.α} {N:Nat}
def KN (key:Nat→O.α) (p:Array Nat) (i:Nat):O.α:=key (p.getD i 0)
def dY (key:Nat→O.α) (p:Array Nat) (k:Nat):Prop:=∀ i j,i≤j→j < k→O.kle (KN key p i) (KN key p j)
def zB (key:Nat→O.α) (p:Array Nat) (k:Nat):Prop:=∀ i j,i≤j→j < k→O.kle (KN key p j) (KN key p i)
def InN (N:Nat) (p:Array Nat):Prop:=p.toList.Perm (List.range N)
theorem InN.size {p:Array Nat} (h:InN N p):p.size=N:=by simpa using h.length_eq
theorem InN.lt {p:Array Nat} (h:InN N p) {i:Nat} (hi:i < N):p.getD i 0 < N:=by
 have hs:i < p.size:=by rw [h.size]; exact hi
 have e:p.getD i 0=p[i]:=by simp [Array.getD,hs]
 rw [e]
 exact List.mem_range.mp (h.mem_iff.mp (by simp))
theorem InN.of {p q:Array Nat} (h:InN N p) (g:q.Perm p):InN N q:=(Array.perm_iff_toList_perm.mp g).trans h
theorem jh {p q:Array Nat} {i j:Nat} (h:p[i]?=q[j]?):KN key p i=KN key q j:=by
 unfold KN
 rw [Array.getD_eq_getD_getElem?,Array.getD_eq_getD_getElem?,h]
theorem pK {p:Array Nat} {src d:Nat} (hs:src < p.size) (hd:d≤src) (k:Nat) :
  KN key (bubble p src d) k=if k=src - d then KN key p src else if src - d < k∧k≤src then KN key p (k - 1) else KN key p k:=by
 have e:=getElem?_bubble hs d hd k
 by_cases h1:k=src - d
 ·rw [if_pos h1] at e ⊢; exact jh e
 ·rw [if_neg h1] at e ⊢
  by_cases h2:src - d < k∧k≤src
  ·rw [if_pos h2] at e ⊢; exact jh e
  ·rw [if_neg h2] at e ⊢; exact jh e
theorem zf {p:Array Nat} {i j:Nat} (hj:j≤p.size) (k:Nat):KN key (kas_rev p i j) k=if i≤k∧k < j then KN key p (i+j - 1 - k) else KN key p k:=by
 have e:=getElem?_mirror_all (i:=i) hj k
 unfold kas_rev
 by_cases h1:i≤k∧k < j
 ·rw [if_pos h1] at e ⊢; exact jh e
 ·rw [if_neg h1] at e ⊢; exact jh e
theorem d8 {p:Array Nat} {i j:Nat} (hj:j≤p.size) (heq:∀ k,i≤k→k < j→KN key p k=KN key p (j - 1)) (k:Nat):KN key (kas_rev p i j) k=KN key p k:=by
 rw [zf hj]
 split
 ·rw [heq _ (by omega) (by omega),heq k (by omega) (by omega)]
 ·rfl
theorem InN.rev {p:Array Nat} (h:InN N p) (i j:Nat):InN N (kas_rev p i j):=h.of (mirror_perm _ _ _ _)
section
variable {cmp:Nat→Nat→(Bool→Shared→Prop)→Shared→Prop} {s:Shared}
def Cmp (key:Nat→O.α) (N:Nat) (cmp:Nat→Nat→(Bool→Shared→Prop)→Shared→Prop) (s:Shared):Prop :=
 ∀ (i j:Nat) (C:Bool→Shared→Prop),i < N→j < N→C (O.blt (key i) (key j)) s→cmp i j C s
theorem ask {α:Type} {p:Array Nat} {i j:Nat} {k:Bool→KasT α} {G:α→Shared→Prop} (hc:Cmp key N cmp s) (hp:InN N p) (hi:i < N) (hj:j < N)
  (h:(k (O.blt (KN key p i) (KN key p j))).kasWp cmp G s):(KasT.ask (p.getD i 0) (p.getD j 0) k).kasWp cmp G s :=
 hc _ _ _ (hp.lt hi) (hp.lt hj) h
theorem asc {p:Array Nat} {G:Nat→Shared→Prop} {nrem:Nat} (hc:Cmp key N cmp s) (hp:InN N p) (hN:nrem≤N):∀ (f n:Nat),1≤n→n+f=nrem→dY key p n →
  (∀ m,n≤m→m≤nrem→dY key p m→(m=nrem∨O.klt (KN key p m) (KN key p (m - 1)))→G m s)→(kas_asc p f n).kasWp cmp G s
 | 0,n,h1,hf,hs,h=>h n (Nat.le_refl _) (by omega) hs (.inl (by omega))
 | f+1,n,h1,hf,hs,h=>by
  unfold kas_asc
  refine ask hc hp (by omega) (by omega) ?_
  cases hl:O.blt (KN key p n) (KN key p (n - 1)) with
  | true =>
   rw [if_pos rfl]
   exact h n (Nat.le_refl _) (by omega) hs (.inr hl)
  | false =>
   rw [if_neg (by simp)]
   refine asc hc hp hN f (n+1) (by omega) (by omega) (fun i j hij hj=>?_) fun m a b c d=>h m (by omega) b c d
   by_cases hjx:j < n
   ·exact hs i j hij hjx
   ·have hj':j=n:=by omega
    subst hj'
    by_cases hi':i=j
    ·subst hi'; exact KeyOrd.kle_refl _
    ·exact KeyOrd.kle_trans (hs i (j - 1) (by omega) (by omega)) hl
theorem desc {G:Array Nat × Nat × Nat→Shared→Prop} {nrem:Nat} (hc:Cmp key N cmp s) (hN:nrem≤N):∀ (f:Nat) (p:Array Nat) (n q:Nat),InN N p→1≤n→n+f=nrem→zB key p n→q+1≤n →
  (∀ i,n - (q+1)≤i→i < n→KN key p i=KN key p (n - 1)) →
  (∀ p m q,InN N p→n≤m→m≤nrem→zB key p m→q+1≤m→(∀ i,m - (q+1)≤i→i < m→KN key p i=KN key p (m - 1))→G (p,m,q) s)→(kas_desc f p n q).kasWp cmp G s
 | 0,p,n,q,hp,h1,hf,hs,hq,he,h=>h p n q hp (Nat.le_refl _) (by omega) hs hq he
 | f+1,p,n,q,hp,h1,hf,hs,hq,he,h=>by
  unfold kas_desc
  have hsz:n≤p.size:=by rw [hp.size]; omega
  refine ask hc hp (by omega) (by omega) ?_
  cases hl:O.blt (KN key p n) (KN key p (n - 1)) with
  | true =>
   rw [if_pos rfl]
   have step1:∀ xs:Array Nat,(∀ k,KN key xs k=KN key p k)→zB key xs (n+1):=by
    intro xs hk i j hij hj
    rw [hk,hk]
    by_cases hjx:j < n
    ·exact hs i j hij hjx
    ·have hj':j=n:=by omega
     subst hj'
     by_cases hi':i=j
     ·subst hi'; exact KeyOrd.kle_refl _
     ·exact KeyOrd.kle_trans (KeyOrd.kle_of_klt hl) (hs i (j - 1) (by omega) (by omega))
   by_cases hneq:q > 0
   ·rw [if_pos hneq]
    exact desc hc hN f _ (n+1) 0 (hp.rev _ _) (by omega) (by omega) (step1 _ (d8 hsz he)) (by omega) (fun i a b=>by congr 1; omega) fun p m q x a b c d e=>h p m q x (by omega) b c d e
   ·rw [if_neg hneq]
    exact desc hc hN f _ (n+1) 0 hp (by omega) (by omega) (step1 _ fun _=>rfl) (by omega) (fun i a b=>by congr 1; omega) fun p m q x a b c d e=>h p m q x (by omega) b c d e
  | false =>
   rw [if_neg (by simp)]
   refine ask hc hp (by omega) (by omega) ?_
   cases hg:O.blt (KN key p (n - 1)) (KN key p n) with
   | true =>
    rw [if_pos rfl]
    exact h p n q hp (Nat.le_refl _) (by omega) hs hq he
   | false =>
    rw [if_neg (by simp)]
    have heqx:KN key p n=KN key p (n - 1):=KeyOrd.kle_antisymm hg hl
    refine desc hc hN f p (n+1) (q+1) hp (by omega) (by omega) (fun i j hij hj=>?_) (by omega) (fun i a b=>?_) fun p m q x a b c d e=>h p m q x (by omega) b c d e
    ·by_cases hjx:j < n
     ·exact hs i j hij hjx
     ·have hj':j=n:=by omega
      subst hj'
      by_cases hi':i=j
      ·subst hi'; exact KeyOrd.kle_refl _
      ·rw [heqx]; exact hs i (j - 1) (by omega) (by omega)
    ·rw [show n+1 - 1=n by omega]
     by_cases hix:i=n
     ·subst hix; rfl
     ·rw [heqx]; exact he i (by omega) (by omega)
theorem tail3 {p:Array Nat} {n nrem:Nat} {G:Nat × Array Nat→Shared→Prop} (hc:Cmp key N cmp s) (hp:InN N p) (hN:nrem≤N) (h1:1≤n) (hn:n≤nrem) (hs:zB key p n)
  (h:∀ m q,InN N q→1≤m→m≤nrem→dY key q m→G (m,q) s):(kas_tail3 n nrem p).kasWp cmp G s:=by
 unfold kas_tail3
 rw [KasT.kasWp_bind]
 have hsz:n≤p.size:=by rw [hp.size]; omega
 refine asc (nrem:=nrem) hc (hp.rev _ _) hN _ n h1 (by omega) (fun i j hij hj=>?_) fun m a b c _=>h m _ (hp.rev _ _) (by omega) b c
 rw [zf hsz,zf hsz,if_pos (by omega),if_pos (by omega)]
 exact hs _ _ (by omega) (by omega)
theorem descPart {p:Array Nat} {n nrem:Nat} {G:Nat × Array Nat→Shared→Prop} (hc:Cmp key N cmp s) (hp:InN N p) (hN:nrem≤N) (hn:n+1≤nrem) (hs:zB key p (n+1))
  (h:∀ m q,InN N q→1≤m→m≤nrem→dY key q m→G (m,q) s):(kas_descPart n nrem p).kasWp cmp G s:=by
 unfold kas_descPart
 rw [KasT.kasWp_bind]
 refine desc (nrem:=nrem) hc hN _ p (n+1) 0 hp (by omega) (by omega) hs (by omega) (fun i a b=>by congr 1; omega) fun p' m q hp' hm1 hm2 hf hq he=>?_
 dsimp only
 have hsz:m≤p'.size:=by rw [hp'.size]; omega
 by_cases hneq:q > 0
 ·rw [if_pos hneq]
  refine tail3 hc (hp'.rev _ _) hN (by omega) hm2 (fun i j hij hj=>?_) h
  rw [d8 hsz he,d8 hsz he]
  exact hf i j hij hj
 ·rw [if_neg hneq]
  exact tail3 hc hp' hN (by omega) hm2 hf h
theorem count {p:Array Nat} {nrem:Nat} {G:Nat × Array Nat→Shared→Prop} (hc:Cmp key N cmp s) (hp:InN N p) (hN:nrem≤N) (h1:1≤nrem)
  (h:∀ m q,InN N q→1≤m→m≤nrem→dY key q m→G (m,q) s):(kas_count nrem p).kasWp cmp G s:=by
 unfold kas_count
 rw [KasT.kasWp_bind]
 refine asc (nrem:=nrem) hc hp hN _ 1 (Nat.le_refl _) (by omega) (fun i j hij hj=>by have:i=j:=(by omega); subst this; exact KeyOrd.kle_refl _) fun n hn1 hn2 hsn hor=>?_
 by_cases hnn:n=nrem
 ·rw [if_pos (by simpa using hnn)]
  exact h n p hp hn1 hn2 hsn
 ·rw [if_neg (by simpa using hnn)]
  have hlt:O.klt (KN key p n) (KN key p (n - 1)):=hor.resolve_left hnn
  by_cases hgt:n > 1
  ·rw [if_pos hgt]
   refine ask hc hp (by omega) (by omega) ?_
   cases hrose:O.blt (KN key p 0) (KN key p (n - 1)) with
   | true =>
    rw [if_pos rfl]
    exact h n p hp hn1 hn2 hsn
   | false =>
    rw [if_neg (by simp)]
    have hsz:n≤p.size:=by rw [hp.size]; omega
    have hall:∀ k,0≤k→k < n→KN key p k=KN key p (n - 1):=by
     intro k _ hk
     have a1:=hsn 0 k (by omega) hk
     have a2:=hsn k (n - 1) (by omega) (by omega)
     exact KeyOrd.kle_antisymm a2 (KeyOrd.kle_trans hrose a1)
    refine descPart hc (hp.rev _ _) hN (by omega) (fun i j hij hj=>?_) h
    rw [d8 hsz hall,d8 hsz hall]
    by_cases hjn:j < n
    ·rw [hall i (by omega) (by omega),hall j (by omega) hjn]; exact KeyOrd.kle_refl _
    ·have hj':j=n:=by omega
     subst hj'
     by_cases hi':i=j
     ·subst hi'; exact KeyOrd.kle_refl _
     ·rw [hall i (by omega) (by omega)]; exact KeyOrd.kle_of_klt hlt
  ·rw [if_neg hgt]
   have hn1':n=1:=by omega
   subst hn1'
   refine descPart hc hp hN (by omega) (fun i j hij hj=>?_) h
   by_cases hi':i=j
   ·subst hi'; exact KeyOrd.kle_refl _
   ·have hi0:i=0:=by omega
    have hj1:j=1:=by omega
    subst hi0; subst hj1
    exact KeyOrd.kle_of_klt hlt
theorem place {p:Array Nat} {k:Nat} {G:Nat→Shared→Prop} (hc:Cmp key N cmp s) (hp:InN N p) (hk:k < N) (hs:dY key p k):∀ (f l r:Nat),l≤r→r≤k→r - l≤f →
  (∀ i,i < l→O.kle (KN key p i) (KN key p k))→(∀ i,r≤i→i < k→O.klt (KN key p k) (KN key p i)) →
  (∀ l,l≤k→(∀ i,i < l→O.kle (KN key p i) (KN key p k))→(∀ i,l≤i→i < k→O.klt (KN key p k) (KN key p i))→G l s)→(kas_place p k f l r).kasWp cmp G s
 | 0,l,r,hlr,hrk,hf,hlo,hhi,h=>by
  have e:l=r:=by omega
  subst e
  exact h l hrk hlo hhi
 | f+1,l,r,hlr,hrk,hf,hlo,hhi,h=>by
  unfold kas_place
  by_cases hge:l ≥ r
  ·rw [if_pos hge]
   have e:l=r:=by omega
   subst e
   exact h l hrk hlo hhi
  ·rw [if_neg hge]
   refine ask hc hp hk (by omega) ?_
   cases hl:O.blt (KN key p k) (KN key p ((l+r) / 2)) with
   | true =>
    rw [if_pos rfl]
    exact place hc hp hk hs f l ((l+r) / 2) (by omega) (by omega) (by omega) hlo (fun i a b=>KeyOrd.klt_of_klt_of_kle hl (hs _ _ a b)) h
   | false =>
    rw [if_neg (by simp)]
    exact place hc hp hk hs f ((l+r) / 2+1) r (by omega) (by omega) (by omega) (fun i a=>KeyOrd.kle_trans (hs i ((l+r) / 2) (by omega) (by omega)) hl) hhi h
theorem bin {n:Nat} {G:Array Nat→Shared→Prop} (hc:Cmp key N cmp s) (hN:n≤N):∀ (f:Nat) (p:Array Nat) (k:Nat),InN N p→k+f=n→dY key p k →
  (∀ p,InN N p→dY key p n→G p s)→(kas_bin f p k).kasWp cmp G s
 | 0,p,k,hp,hf,hs,h=>h p hp (by rw [show n=k by omega]; exact hs)
 | f+1,p,k,hp,hf,hs,h=>by
  unfold kas_bin
  rw [KasT.kasWp_bind]
  refine place hc hp (by omega) hs k 0 k (by omega) (Nat.le_refl _) (by omega) (fun i a=>by omega) (fun i a b=>by omega) fun l hlk hlo hhi=>?_
  refine bin hc hN f _ (k+1) (hp.of (bubble_perm _ _ _)) (by omega) (fun i j hij hj=>?_) h
  have hks:k < p.size:=by rw [hp.size]; omega
  rw [pK hks (by omega),pK hks (by omega),show k - (k - l)=l by omega]
  repeat' split
  all_goals first
   | (exfalso; omega)
   | exact KeyOrd.kle_refl _
   | exact hlo _ (by omega)
   | exact KeyOrd.kle_of_klt (hhi _ (by omega) (by omega))
   | exact hs _ _ (by omega) (by omega)
theorem sort {G:Array Nat→Shared→Prop} (hc:Cmp key N cmp s) (h1:1≤N) (h:∀ p,InN N p→dY key p N→G p s):(kas_sort N).kasWp cmp G s:=by
 unfold kas_sort
 rw [KasT.kasWp_bind]
 refine count hc (show InN N _ by unfold InN; simp) (Nat.le_refl _) h1 fun m q hq hm1 hm2 hs=>?_
 dsimp only
 by_cases hlt:m < N
 ·rw [if_pos hlt,show max m 1=m by omega]
  exact bin hc (Nat.le_refl _) _ q m hq (by omega) hs h
 ·rw [if_neg hlt]
  obtain rfl:m=N:=by omega
  exact h q hq hs
end
section
variable {prog:Program} {w:World} {A:Around} {E:Value→Shared→Prop} {s:Shared}
def Keeps (h h':Heap):Prop:=∀ b o,h.get? b=some o→h'.get? b=some o
theorem za {a:Addr} {vs:List Value} {n:Nat} {P:PySem.Fin→Shared→Prop} (key:Nat→O.α) (κ:SortKind) (ho:s.heap.get? a=some (seqObj "list" vs.toArray n)) (h64:vs.length < 64)
  (hk:2≤vs.length→∀ h',(∀ b o,b≠a→s.heap.get? b=some o→h'.get? b=some o)→∀ (Q:SortKind→Shared→Prop),Q κ { s with heap:=h' }→wpAny (model prog w) A (keyKind' vs.toArray) Q E { s with heap:=h' })
  (hc:∀ h',(∀ b o,b≠a→s.heap.get? b=some o→h'.get? b=some o)→Cmp key vs.length (kas_ask prog w A κ vs) { s with heap:=h' })
  (h:∀ p,InN vs.length p→dY key p vs.length→P (.done (.ret .none)) { s with heap:=sortedHeap s.heap a vs (List.toArray (p.toList.map fun i=>vs.getD i Value.none)) }) :
  wpAny (model prog w) A (Builtin.«list.sort» ⟨[.ref a],[]⟩) P E s:=by
 rw [list_sort_plain]
 have ha:a < s.heap.objs.size:=Heap.lt_size ho
 refine wpAny_bind (listItems_at ho rfl ?_)
 refine wpAny_bind (listUpdate_at ho rfl ?_ (by rw [sizeLine_eq]; simp; omega))
 obtain ⟨e1,ho1⟩:∃ e1,(s.heap.update a (Obj.mapSeq fun _=>#[])).get? a=some (seqObj "list" #[] e1):=⟨_,get?_update_seq ho (fun _=>#[])⟩
 refine wpAny_bind (seqEpoch_at ho1 rfl ?_)
 refine wpAny_bind (wpAny_newTuple ?_ (by rw [sizeLine_eq]; simp; omega))
 refine wpAny_bind (wpAny_newList ?_)
 refine wpAny_holding ?_
 have keep:∀ b o,b≠a→s.heap.get? b=some o→(((s.heap.update a (Obj.mapSeq fun _=>#[])).push (seqObj "tuple" vs.toArray 0)).push (seqObj "list" #[] 0)).get? b=some o:=fun b o hb q=>by
  have hlt:b < s.heap.objs.size:=Heap.lt_size q
  rw [Heap.get?_push_ne _ _ _ (by rw [size_push',Heap.size_update]; exact Nat.ne_of_lt (Nat.lt_succ_of_lt hlt)),Heap.get?_push_ne _ _ _ (by rw [Heap.size_update]; exact Nat.ne_of_lt hlt),Heap.get?_update_ne _ _ _ _ hb]
  exact q
 have ho6:(((s.heap.update a (Obj.mapSeq fun _=>#[])).push (seqObj "tuple" vs.toArray 0)).push (seqObj "list" #[] 0)).get? a=some (seqObj "list" #[] e1):=by
  rw [Heap.get?_push_ne _ _ _ (by rw [size_push',Heap.size_update]; exact Nat.ne_of_lt (Nat.lt_succ_of_lt ha)),Heap.get?_push_ne _ _ _ (by rw [Heap.size_update]; exact Nat.ne_of_lt ha)]
  exact ho1
 show wpAny (model prog w) A _ P E { s with heap:=((s.heap.update a (Obj.mapSeq fun _=>#[])).push (seqObj "tuple" vs.toArray 0)).push (seqObj "list" #[] 0) }
 dsimp only
 have hsz:vs.toArray.size=vs.length:=by simp
 by_cases h2:vs.toArray.size < 2
 ·rw [if_pos h2,if_pos h2]
  refine wpAny_bind (wpAny_pure ?_)
  rw [StateT.run_pure]
  refine wpAny_bind (wpAny_pure ?_)
  dsimp only
  refine wpAny_bind (seqEpoch_at ho6 rfl ?_)
  have e:((arrOf (SortSt.mk' general' (vs.toArray.zip vs.toArray) #[] 7 none)).map (·.2))=List.toArray ((List.range vs.length).toArray.toList.map fun i=>vs.getD i Value.none):=by
   show (vs.toArray.zip vs.toArray).map (·.2)=_
   apply Array.toList_inj.mp
   apply List.ext_getElem
   ·simp
   ·intro i h1 h2'
    simp at h1 h2' ⊢
    simp [h1]
  rw [e]
  refine wpAny_bind (listUpdate_at ho6 rfl ?_ (hsz2:=by rw [sizeLine_eq]; simp; omega))
  simp only [bne_self_eq_false,Bool.false_eq_true,if_false]
  refine wpAny_pure (h _ (show InN vs.length (List.range vs.length).toArray from List.Perm.refl _) ?_)
  intro i j hij hj
  have:i=j:=by omega
  subst this; exact KeyOrd.kle_refl _
 ·rw [if_neg h2,if_neg h2]
  refine wpAny_bind (hk (by omega) _ keep _ ?_)
  refine wpAny_bind (wpAny_mono (kat_run (ks:=vs) (vs:=vs) (Q:=fun st' s'=>∃ p:Array Nat,arrOf st'=p.map (kas_item (vs.toArray.zip vs.toArray))∧failedOf st'=none∧s'=_∧InN vs.length p∧dY key p vs.length)
   (G:=fun p s'=>s'=_∧InN vs.length p∧dY key p vs.length) rfl (by omega) h64 (fun p st' s' _ har hf hg=>⟨p,har,hf,hg⟩) (sort (hc _ keep) (by omega) fun p a b=>⟨rfl,a,b⟩)) ?_ fun _ _ x=>x)
  rintro ⟨⟨⟩,st'⟩ s' ⟨p,har,hf,rfl,hi,hso⟩
  dsimp only
  have hpl:p.size≤63:=by rw [hi.size]; omega
  refine wpAny_bind (seqEpoch_at ho6 rfl ?_)
  rw [kat_snds rfl har]
  refine wpAny_bind (listUpdate_at ho6 rfl ?_ (hsz2:=by rw [sizeLine_eq]; simp; omega))
  rw [hf]
  simp only [bne_self_eq_false,Bool.false_eq_true,if_false]
  exact wpAny_pure (h p hi hso)
theorem zY {v:Value} {vs:List Value} {g:Heap} {Q:Value→Shared→Prop} (key:Nat→O.α) (κ:SortKind) (h64:vs.length < 64) (kg:Keeps s.heap g)
  (hcol:∀ (Q:List Value→Shared→Prop),Q vs { s with heap:=g }→wpAny (model prog w) A.in1 (collect v) Q E { s with heap:=s.heap })
  (hk:2≤vs.length→∀ h',Keeps s.heap h'→∀ (E:Value→Shared→Prop) (Q:SortKind→Shared→Prop),Q κ { s with heap:=h' }→wpAny (model prog w) A.in1.in1 (keyKind' vs.toArray) Q E { s with heap:=h' })
  (hc:∀ h',Keeps s.heap h'→Cmp key vs.length (kas_ask prog w A.in1.in1 κ vs) { s with heap:=h' })
  (h:∀ (g':Heap) (p:Array Nat),Keeps s.heap g'→InN vs.length p→dY key p vs.length→(∃ n,g'.get? g.objs.size=some (seqObj "list" (List.toArray (p.toList.map fun i=>vs.getD i Value.none)) n))→Q (.ref g.objs.size) { s with heap:=g' }) :
  wpAny (model prog w) A (call (.builtin "sorted") [v]) Q E s:=by
 refine Calls.call_function_entry kind_sorted plain_sorted entry_sorted (args_sorted1 _) ?_
 unfold Builtin.«sorted»
 refine wpAny_bind (m:=checkCount "sorted" 1 1 _) (wpAny_pure ?_)
 refine wpAny_bind (hcol _ ?_)
 refine wpAny_bind (wpAny_newList ?_ (by rw [sizeLine_eq]; omega))
 have hoL:(g.push (seqObj "list" vs.toArray 0)).get? g.objs.size=some (seqObj "list" vs.toArray 0):=Heap.get?_push_size _ rfl
 have keep:∀ h',(∀ b o,b≠g.objs.size→(g.push (seqObj "list" vs.toArray 0)).get? b=some o→h'.get? b=some o)→Keeps s.heap h':=fun h' k b o q=>by
  have q':=kg b o q
  exact k b o (Nat.ne_of_lt (Heap.lt_size q')) (Heap.get?_push_of_some _ q')
 show wpAny _ _ _ _ _ { s with heap:=g.push (seqObj "list" vs.toArray 0) }
 refine wpAny_bind (wpAny_holding (wpAny_call_entry slot_list_sort ⟨_,hoL,rfl⟩ entry_list_sort (za key κ hoL h64 (fun z h' k Q q=>hk z h' (keep h' k) _ Q q) (fun h' k=>hc h' (keep h' k)) fun p a1 a2=>⟨_,rfl,?_⟩) (args_list_sort _)))
 refine wpAny_pure ⟨_,rfl,h _ p (keep _ fun b o hb q=>?_) a1 a2 ?_⟩
 ·unfold sortedHeap
  have hlt:b < (g.push (seqObj "list" vs.toArray 0)).objs.size:=Heap.lt_size q
  rw [Heap.get?_update_ne _ _ _ _ hb,Heap.get?_push_ne _ _ _ (by rw [size_push',Heap.size_update]; exact Nat.ne_of_lt (Nat.lt_succ_of_lt hlt)),Heap.get?_push_ne _ _ _ (by rw [Heap.size_update]; exact Nat.ne_of_lt hlt),Heap.get?_update_ne _ _ _ _ hb]
  exact q
 ·unfold sortedHeap
  have ha:g.objs.size < (g.push (seqObj "list" vs.toArray 0)).objs.size:=Heap.lt_size hoL
  obtain ⟨e1,ho1⟩:∃ e1,((g.push (seqObj "list" vs.toArray 0)).update g.objs.size (Obj.mapSeq fun _=>#[])).get? g.objs.size=some (seqObj "list" #[] e1):=⟨_,get?_update_seq hoL (fun _=>#[])⟩
  have ho6:((((g.push (seqObj "list" vs.toArray 0)).update g.objs.size (Obj.mapSeq fun _=>#[])).push (seqObj "tuple" vs.toArray 0)).push (seqObj "list" #[] 0)).get? g.objs.size=some (seqObj "list" #[] e1):=by
   rw [Heap.get?_push_ne _ _ _ (by rw [size_push',Heap.size_update]; exact Nat.ne_of_lt (Nat.lt_succ_of_lt ha)),Heap.get?_push_ne _ _ _ (by rw [Heap.size_update]; exact Nat.ne_of_lt ha)]
   exact ho1
  exact ⟨_,get?_update_seq ho6 _⟩
end
end SO
set_option maxHeartbeats 4000000
namespace PySem.SeqAt
open AutoSeq1 (wpAny_loadPart')
open MeetsSeq MeetsSeq2 MeetsSeq3 SeqRoads2
def vA (A:Around) (s:Shared) (y x:Value) (b:Bool):Prop :=
 ∀ (prog:Program) (w:World) (E:Value→Shared→Prop) (Q:Value→Shared→Prop),Q (.bool b) s→wpAny (model prog w) A (richCompare .Lt y x) Q E s
def lQ (e f:Nat→Bool) (fin:Bool):List Nat→Bool
 | []=>fin
 | i :: r=>if e i=true then lQ e f fin r else f i
theorem vI (l b:Addr) (items items2:Array Value) (n n2:Nat) (dd dd2:Option Addr) (sl sl2:Array (Option Value)) (e f:Nat→Bool) :
  Meets (Builtin.«tuple.__lt__» ⟨[.ref l,.ref b],[]⟩)
   (fun A R s=>s.heap.get? l=some { cls:=.type "tuple",dict:=dd,data:=.seq items n,slots:=sl }∧s.heap.get? b=some { cls:=.type "tuple",dict:=dd2,data:=.seq items2 n2,slots:=sl2 } ∧
    (∀ j (h1:j < items.size) (h2:j < items2.size),EqAt A.in1 s items[j] items2[j] (e j))∧(∀ j (h1:j < items.size) (h2:j < items2.size),e j=false→vA A.in1 s items[j] items2[j] (f j)) ∧
    R (.ok (.ret (.bool (lQ e f (decide (items.size < items2.size)) (List.range (min items.size items2.size)))))) s) :=
 .of_wp fun prog w A R s h=>by
  obtain ⟨hp,g,d,tk,os⟩:=s; obtain ⟨hl,hb,he,hf,h⟩:=h
  have f2:=AutoSeq1.sub_tuple_tuple
  have hZ:(items.toList.zip items2.toList).length=min items.size items2.size:=by simp
  wp_walk using wpAny_loadPart' hl,wpAny_loadPart' hb,wpAny_forIn_list _ (fun rest b s'=>b.1=none∧s'=⟨hp,g,d,tk,os⟩∧∃ i,rest=(items.toList.zip items2.toList).drop i ∧
   R (.ok (.ret (.bool (lQ e f (decide (items.size < items2.size)) ((List.range (min items.size items2.size)).drop i))))) ⟨hp,g,d,tk,os⟩) _
  case turn =>
   rintro ⟨y,x⟩ rest b s' ⟨hb',rfl,i,hz,hR⟩
   have hlt:i < (items.toList.zip items2.toList).length:=by
    rcases Nat.lt_or_ge i (items.toList.zip items2.toList).length with h' | h'
    ·exact h'
    ·rw [List.drop_of_length_le h'] at hz; cases hz
   have hm:i < min items.size items2.size:=hZ ▸ hlt
   have h1:i < items.size:=Nat.lt_of_lt_of_le hm (Nat.min_le_left _ _)
   have h2:i < items2.size:=Nat.lt_of_lt_of_le hm (Nat.min_le_right _ _)
   rw [List.drop_eq_getElem_cons hlt] at hz
   injection hz with hyx hrest
   have hy:y=items[i]:=by have:=congrArg Prod.fst hyx; simpa using this
   have hx:x=items2[i]:=by have:=congrArg Prod.snd hyx; simpa using this
   subst hy hx
   have hd:(List.range (min items.size items2.size)).drop i=i :: (List.range (min items.size items2.size)).drop (i+1):=by simp [List.drop_eq_getElem_cons,hm]
   rw [hd] at hR
   refine wpAny_bind (he i h1 h2 prog w _ _ ?_)
   cases hy:e i with
   | true =>
    have hR':R (.ok (.ret (.bool (lQ e f (decide (items.size < items2.size)) ((List.range (min items.size items2.size)).drop (i+1)))))) ⟨hp,g,d,tk,os⟩:=by
     have:lQ e f (decide (items.size < items2.size)) (i :: (List.range (min items.size items2.size)).drop (i+1))=lQ e f (decide (items.size < items2.size)) ((List.range (min items.size items2.size)).drop (i+1)):=by
      show (if e i=true then _ else _)=_
      rw [if_pos hy]
     rw [this] at hR
     exact hR
    wp_walk
    exact ⟨rfl,rfl,i+1,hrest,hR'⟩
   | false =>
    have hR':R (.ok (.ret (.bool (f i)))) ⟨hp,g,d,tk,os⟩:=by
     have:lQ e f (decide (items.size < items2.size)) (i :: (List.range (min items.size items2.size)).drop (i+1))=f i:=by
      show (if e i=true then _ else _)=_
      rw [if_neg (by simp [hy])]
     rw [this] at hR
     exact hR
    simp only [Bool.not_false,if_true]
    refine wpAny_bind (wpAny_rule (wpAny_bind (hf i h1 h2 hy prog w _ _ ?_)))
    wp_walk
    exact ⟨_,rfl,hR'⟩
  case fin =>
   rintro ⟨b1,b2⟩ s' ⟨hb',rfl,i,hz,hR⟩
   simp only at hb'
   subst hb'
   have hge:min items.size items2.size≤i:=by
    rcases Nat.lt_or_ge i (items.toList.zip items2.toList).length with h' | h'
    ·rw [List.drop_eq_getElem_cons h'] at hz; cases hz
    ·exact hZ ▸ h'
   rw [List.drop_of_length_le (by simpa using hge)] at hR
   wp_walk
   exact ⟨_,rfl,by simpa [Builtin.Tuple.tupleCompareSizes,lQ] using hR⟩
  case h =>
   exact ⟨rfl,rfl,0,rfl,by simpa using h⟩
section
variable {A:Around} {s:Shared}
theorem vA.tuples {l b:Addr} {items items2:Array Value} {e f:Nat→Bool} (hl:s.heap.IsTuple l items) (hb:s.heap.IsTuple b items2) (hu:A.units < cLine)
  (he:∀ j (h1:j < items.size) (h2:j < items2.size),EqAt A.in1 s items[j] items2[j] (e j)) (hf:∀ j (h1:j < items.size) (h2:j < items2.size),e j=false→vA A.in1 s items[j] items2[j] (f j)) :
  vA A s (.ref l) (.ref b) (lQ e f (decide (items.size < items2.size)) (List.range (min items.size items2.size))):=fun prog w E Q h=>by
 obtain ⟨⟨cls,dd,data,sl⟩,ho,hc,n,hd⟩:=id hl
 obtain ⟨⟨cls2,dd2,data2,sl2⟩,ho2,hc2,n2,hd2⟩:=id hb
 simp only at hc hd hc2 hd2
 subst hc hd hc2 hd2
 exact richCompare_meets_room (op:=.Lt) ⟨_,ho,rfl⟩ ⟨_,ho2,rfl⟩ F.slot_tuple_lt F.entry_tuple_lt (F.args_tuple_lt_2 _ _) (vI l b items items2 n n2 dd dd2 sl sl2 e f)
  ⟨ho,ho2,he,hf,show Value.bool (lQ e f (decide (items.size < items2.size)) (List.range (min items.size items2.size)))≠Value.notImplemented∧Q (.bool (lQ e f (decide (items.size < items2.size)) (List.range (min items.size items2.size)))) s from ⟨(fun x=>nomatch x),h⟩⟩ hu
end
end PySem.SeqAt
set_option maxHeartbeats 400000
namespace L2
open PySem PySem.Spec PyProof.Rows
def dX:D→Nat
 | .non=>0 | .bl _=>1 | .int _=>2 | .str _=>3 | .tup _=>4
open Classical in
noncomputable def eqD (a b:D):Bool:=decide (a=b)
theorem Gp {x y:Str} (e:x.cps.toList=y.cps.toList):x=y:=by
 cases x; cases y
 simp only at e
 congr
 exact Array.toList_inj.mp e
theorem gC {a b:D} (h:eqD a b=true):a=b:=@of_decide_eq_true _ (Classical.propDecidable _) h
theorem j5 (d:D):eqD d d=true:=@decide_eq_true _ (Classical.propDecidable _) rfl
theorem iB {a b:D}:eqD a b=true↔a=b:=⟨gC,fun h=>by subst h; exact j5 _⟩
theorem lJ {a b:D} (h:eqD a b=false):a≠b:=fun e=>by
 rw [iB.mpr e] at h
 cases h
theorem qe {a b:D} (h:a≠b):eqD a b=false:=by
 cases e:eqD a b with
 | true=>exact absurd (gC e) h
 | false=>rfl
def klt:D→D→Bool
 | .bl a=>fun e=>match e with | .bl b=>!a && b | _=>false
 | .int a=>fun e=>match e with | .int b=>decide (a < b) | _=>false
 | .str x=>fun e=>match e with | .str y=>decide (x.cps.toList < y.cps.toList) | _=>false
 | _=>fun _=>false
def Ag (a b:D):Bool:=decide (dX a < dX b) || klt a b
mutual
noncomputable def dlt:D→D→Bool
 | .tup xs=>fun e=>match e with | .tup ys=>rW xs ys | _=>false
 | .non=>Ag .non
 | .bl b=>Ag (.bl b)
 | .int i=>Ag (.int i)
 | .str x=>Ag (.str x)
noncomputable def rW:List D→List D→Bool
 | []=>fun ys=>match ys with | []=>false | _ :: _=>true
 | x :: xs=>fun ys=>match ys with | []=>false | y :: ys=>if eqD x y=true then rW xs ys else dlt x y
end
theorem rB (a b:Int):dlt (.int a) (.int b)=decide (a < b):=rfl
theorem zp (x y:Str):dlt (.str x) (.str y)=decide (x.cps.toList < y.cps.toList):=rfl
theorem DW (xs ys:List D):dlt (.tup xs) (.tup ys)=rW xs ys:=rfl
theorem Gz (y:D) (ys:List D):rW [] (y :: ys)=true:=rfl
theorem Gd (x:D) (xs:List D):rW (x :: xs) []=false:=rfl
theorem m5 (x y:D) (xs ys:List D):rW (x :: xs) (y :: ys)=if eqD x y=true then rW xs ys else dlt x y:=rfl
theorem GP {x y:Str} (h1:¬ x.cps.toList < y.cps.toList) (h2:¬ y.cps.toList < x.cps.toList):x=y :=
 Gp (List.le_antisymm (List.not_lt.mp h2) (List.not_lt.mp h1))
theorem ff {P:Prop} (h:false=true):P:=Bool.noConfusion h
theorem Jy {P:D→D→Prop} (h1:P (.bl false) (.bl true)) (h2:∀ i j:Int,i < j→P (.int i) (.int j)) (h3:∀ x y:Str,x.cps.toList < y.cps.toList→P (.str x) (.str y)):∀ {a b:D},klt a b=true→P a b:=by
 intro a b h
 cases a with
 | bl p =>
  cases b with
  | bl q=>cases p <;> cases q <;> first | exact h1 | exact ff h
  | non=>exact ff h
  | int _=>exact ff h
  | str _=>exact ff h
  | tup _=>exact ff h
 | int p =>
  cases b with
  | int q=>exact h2 p q (of_decide_eq_true h)
  | non=>exact ff h
  | bl _=>exact ff h
  | str _=>exact ff h
  | tup _=>exact ff h
 | str p =>
  cases b with
  | str q=>exact h3 p q (of_decide_eq_true h)
  | non=>exact ff h
  | bl _=>exact ff h
  | int _=>exact ff h
  | tup _=>exact ff h
 | non=>exact ff h
 | tup _=>exact ff h
theorem tH {a b:D} (h:klt a b=true):dX a=dX b∧dX a < 4:=Jy (P:=fun a b=>dX a=dX b∧dX a < 4) ⟨rfl,by decide⟩ (fun _ _ _=>⟨rfl,by show 2 < 4; decide⟩) (fun _ _ _=>⟨rfl,by show 3 < 4; decide⟩) h
theorem Hu {a b c:D} (h:klt a b=true):klt b c=true→klt a c=true:=Jy (P:=fun a b=>klt b c=true→klt a c=true) (fun h=>by cases c <;> exact ff h)
 (fun i j hij h=>by
  cases c with
  | int k=>exact decide_eq_true (Int.lt_trans hij (of_decide_eq_true h))
  | _=>exact ff h)
 (fun x y hxy h=>by
  cases c with
  | str z=>exact decide_eq_true (List.lt_trans hxy (of_decide_eq_true h))
  | _=>exact ff h) h
theorem yc {a b:D} (h:Ag a b=true):dX a < dX b∨klt a b=true:=(Bool.or_eq_true _ _ ▸ h:_∨_).imp of_decide_eq_true id
theorem uM {a b:D} (h:dX a < dX b):Ag a b=true:=by unfold Ag; rw [decide_eq_true h]; rfl
theorem xR {a b:D} (h:klt a b=true):Ag a b=true:=by unfold Ag; rw [h,Bool.or_true]
theorem z8:∀ {a:D} (b:D),dX a < 4→dlt a b=Ag a b
 | .non,_,_=>rfl
 | .bl _,_,_=>rfl
 | .int _,_,_=>rfl
 | .str _,_,_=>rfl
 | .tup _,_,h=>absurd h (by show ¬ 4 < 4; decide)
theorem zM {xs:List D} {b:D} (h:dlt (.tup xs) b=true):∃ ys,b=.tup ys∧rW xs ys=true:=by
 cases b with
 | tup ys=>exact ⟨ys,rfl,h⟩
 | _=>exact ff h
theorem Dm {a:D} (h:¬ dX a < 4):∃ xs,a=.tup xs:=by
 cases a with
 | tup xs=>exact ⟨xs,rfl⟩
 | non=>exact absurd (show 0 < 4 by decide) h
 | bl _=>exact absurd (show 1 < 4 by decide) h
 | int _=>exact absurd (show 2 < 4 by decide) h
 | str _=>exact absurd (show 3 < 4 by decide) h
theorem Ci {a b:D} (h:dlt a b=true):dX a≤dX b:=by
 by_cases ha:dX a < 4
 ·rw [z8 b ha] at h
  rcases yc h with h | h
  ·omega
  ·exact Nat.le_of_eq (tH h).1
 ·obtain ⟨xs,rfl⟩:=Dm ha
  obtain ⟨ys,rfl,_⟩:=zM h
  exact Nat.le_refl _
theorem tr0 {a b c:D} (ha:dX a < 4) (h1:dlt a b=true) (h2:dlt b c=true):dlt a c=true:=by
 rw [z8 _ ha] at h1 ⊢
 have hr:=Ci h2
 rcases yc h1 with h | h
 ·exact uM (Nat.lt_of_lt_of_le h hr)
 ·have hk:=tH h
  rw [z8 _ (by rw [← hk.1]; exact hk.2)] at h2
  rcases yc h2 with q | q
  ·exact uM (by rw [hk.1]; exact q)
  ·exact xR (Hu h q)
theorem Jk:∀ {a:D} (b:D),dX a < 4→dlt a b=false→dlt b a=false→a=b:=by
 intro a b ha h1 h2
 rw [z8 _ ha] at h1
 have k1:¬ dX a < dX b:=fun z=>by rw [uM z] at h1; cases h1
 have hb:dX b < 4:=by omega
 rw [z8 _ hb] at h2
 have k2:¬ dX b < dX a:=fun z=>by rw [uM z] at h2; cases h2
 have q1:klt a b=false:=by
  cases h:klt a b with
  | false=>rfl
  | true=>rw [xR h] at h1; cases h1
 have q2:klt b a=false:=by
  cases h:klt b a with
  | false=>rfl
  | true=>rw [xR h] at h2; cases h2
 have e:dX a=dX b:=by omega
 clear h1 h2 k1 k2 hb
 cases a with
 | non=>cases b <;> first | rfl | exact absurd e (Nat.ne_of_beq_eq_false rfl)
 | bl p =>
  cases b with
  | bl q=>cases p <;> cases q <;> first | rfl | exact ff q1.symm | exact ff q2.symm
  | _=>exact absurd e (Nat.ne_of_beq_eq_false rfl)
 | int p =>
  cases b with
  | int q=>exact congrArg D.int (Int.le_antisymm (Int.not_lt.mp (of_decide_eq_false q2)) (Int.not_lt.mp (of_decide_eq_false q1)))
  | _=>exact absurd e (Nat.ne_of_beq_eq_false rfl)
 | str p =>
  cases b with
  | str q=>exact congrArg D.str (GP (of_decide_eq_false q1) (of_decide_eq_false q2))
  | _=>exact absurd e (Nat.ne_of_beq_eq_false rfl)
 | tup _=>exact absurd ha (by show ¬ 4 < 4; decide)
mutual
theorem nu:∀ d:D,dlt d d=false
 | .non=>rfl
 | .bl b=>by cases b <;> rfl
 | .int i=>decide_eq_false (Int.lt_irrefl i)
 | .str x=>decide_eq_false (List.lt_irrefl _)
 | .tup xs=>uo xs
theorem uo:∀ ds:List D,rW ds ds=false
 | []=>rfl
 | d :: ds=>by rw [m5,if_pos (j5 d)]; exact uo ds
end
mutual
theorem qP:∀ a b:D,dlt a b=false→dlt b a=false→a=b
 | .non,b,h1,h2=>Jk b (by show 0 < 4; decide) h1 h2
 | .bl x,b,h1,h2=>Jk b (by show 1 < 4; decide) h1 h2
 | .int x,b,h1,h2=>Jk b (by show 2 < 4; decide) h1 h2
 | .str x,b,h1,h2=>Jk b (by show 3 < 4; decide) h1 h2
 | .tup xs,b,h1,h2=>by
  by_cases hb:dX b < 4
  ·exact (Jk (.tup xs) hb h2 h1).symm
  ·obtain ⟨ys,rfl⟩:=Dm hb
   exact congrArg D.tup (tY xs ys h1 h2)
theorem tY:∀ a b:List D,rW a b=false→rW b a=false→a=b
 | [],[],_,_=>rfl
 | [],_ :: _,h1,_=>ff h1.symm
 | _ :: _,[],_,h2=>ff h2.symm
 | x :: xs,y :: ys,h1,h2=>by
  rw [m5] at h1 h2
  cases he:eqD x y with
  | true =>
   have e:=gC he
   subst e
   rw [if_pos he] at h1 h2
   rw [tY xs ys h1 h2]
  | false =>
   rw [if_neg (fun z=>lJ he (gC z))] at h1
   rw [if_neg (fun z=>lJ he (gC z).symm)] at h2
   exact absurd (qP x y h1 h2) (lJ he)
end
mutual
theorem uJ:∀ a b c:D,dlt a b=true→dlt b c=true→dlt a c=true
 | .non,b,c,h1,h2=>tr0 (by show 0 < 4; decide) h1 h2
 | .bl x,b,c,h1,h2=>tr0 (by show 1 < 4; decide) h1 h2
 | .int x,b,c,h1,h2=>tr0 (by show 2 < 4; decide) h1 h2
 | .str x,b,c,h1,h2=>tr0 (by show 3 < 4; decide) h1 h2
 | .tup xs,b,c,h1,h2=>by
  obtain ⟨ys,rfl,q1⟩:=zM h1
  obtain ⟨zs,rfl,q2⟩:=zM h2
  exact zc xs ys zs q1 q2
theorem zc:∀ a b c:List D,rW a b=true→rW b c=true→rW a c=true
 | [],[],_,h1,_=>ff h1
 | [],_ :: _,[],_,h2=>ff h2
 | [],_ :: _,_ :: _,_,_=>rfl
 | _ :: _,[],_,h1,_=>ff h1
 | _ :: _,_ :: _,[],_,h2=>ff h2
 | x :: xs,y :: ys,z :: zs,h1,h2=>by
  rw [m5] at h1 h2 ⊢
  cases hxy:eqD x y with
  | true =>
   have e:=gC hxy
   subst e
   rw [if_pos hxy] at h1
   cases hxz:eqD x z with
   | true =>
    rw [if_pos hxz] at h2
    rw [if_pos rfl]
    exact zc xs ys zs h1 h2
   | false =>
    rw [if_neg (fun z=>lJ hxz (gC z))] at h2
    rw [if_neg Bool.false_ne_true]
    exact h2
  | false =>
   rw [if_neg (fun z=>lJ hxy (gC z))] at h1
   cases hyz:eqD y z with
   | true =>
    have e:=gC hyz
    subst e
    rw [if_neg (fun z=>lJ hxy (gC z))]
    exact h1
   | false =>
    rw [if_neg (fun z=>lJ hyz (gC z))] at h2
    have g:=uJ x y z h1 h2
    rw [if_neg]
    ·exact g
    ·intro z'
     have e:=gC z'
     subst e
     rw [nu] at g
     cases g
end
noncomputable def J3:KeyOrd where
 α:=D
 blt:=dlt
 irrefl:=nu
 trans:=uJ
 negTrans:=fun a b c h=>by
  cases h1:dlt a b with
  | true=>exact .inl rfl
  | false =>
   cases h2:dlt b a with
   | true=>exact .inr (uJ b a c h2 h)
   | false =>
    have e:=qP a b h1 h2
    subst e
    exact .inr h
 total:=qP
end L2
set_option maxHeartbeats 200000
namespace L2
open PySem PySem.Spec PyProof.Rows
def UpD (ds:List D):Prop:=ds.Pairwise fun a b=>dlt b a=false
mutual
def Sim:D→D→Prop
 | .int _=>fun e=>match e with | .int _=>True | _=>False
 | .str _=>fun e=>match e with | .str _=>True | _=>False
 | .tup xs=>fun e=>match e with | .tup ys=>qH xs ys | _=>False
 | _=>fun _=>False
def qH:List D→List D→Prop
 | []=>fun _=>True
 | x :: xs=>fun ys=>match ys with | []=>True | y :: ys=>Sim x y∧qH xs ys
end
theorem z6 {xs ys:List D} (h:qH xs ys):Sim (.tup xs) (.tup ys):=h
theorem qy {xs ys:List D} (h:Sim (.tup xs) (.tup ys)):qH xs ys:=h
theorem zq {x y:D} {xs ys:List D} (h:Sim x y) (k:qH xs ys):qH (x :: xs) (y :: ys):=⟨h,k⟩
theorem m8 {x y:D} {xs ys:List D} (h:qH (x :: xs) (y :: ys)):Sim x y∧qH xs ys:=h
theorem Dh (ys:List D):qH [] ys:=trivial
theorem HW (xs:List D):qH xs []:=by cases xs <;> exact trivial
theorem qH.at_:∀ {xs ys:List D} {i:Nat} {x y:D},qH xs ys→xs[i]?=some x→ys[i]?=some y→Sim x y
 | [],_,i,x,y,_,hx,_=>by simp at hx
 | _ :: _,[],i,x,y,_,_,hy=>by simp at hy
 | a :: xs,b :: ys,0,x,y,h,hx,hy=>by
  simp at hx hy
  subst hx; subst hy
  exact (m8 h).1
 | a :: xs,b :: ys,i+1,x,y,h,hx,hy=>by
  exact qH.at_ (i:=i) (m8 h).2 (by simpa using hx) (by simpa using hy)
mutual
theorem Den.det {H:Hp}:∀ {d e:D} {v:V},Den H v d→Den H v e→d=e
 | .non,e,v,h1,h2=>by
  have:v=.non:=h1
  subst this
  cases e with
  | non=>rfl
  | tup ds=>obtain ⟨p,vs,z,_⟩:=bO h2; cases z
  | bl b=>exact absurd (show V.non=.bl b from h2) (fun z=>nomatch z)
  | int b=>exact absurd (show V.non=.int b from h2) (fun z=>nomatch z)
  | str b=>exact absurd (show V.non=.str b from h2) (fun z=>nomatch z)
 | .bl b,e,v,h1,h2=>by
  have:v=.bl b:=h1
  subst this
  cases e with
  | bl c=>have z:V.bl b=.bl c:=h2; cases z; rfl
  | tup ds=>obtain ⟨p,vs,z,_⟩:=bO h2; cases z
  | non=>exact absurd (show V.bl b=.non from h2) (fun z=>nomatch z)
  | int c=>exact absurd (show V.bl b=.int c from h2) (fun z=>nomatch z)
  | str c=>exact absurd (show V.bl b=.str c from h2) (fun z=>nomatch z)
 | .int b,e,v,h1,h2=>by
  have:v=.int b:=h1
  subst this
  cases e with
  | int c=>have z:V.int b=.int c:=h2; cases z; rfl
  | tup ds=>obtain ⟨p,vs,z,_⟩:=bO h2; cases z
  | non=>exact absurd (show V.int b=.non from h2) (fun z=>nomatch z)
  | bl c=>exact absurd (show V.int b=.bl c from h2) (fun z=>nomatch z)
  | str c=>exact absurd (show V.int b=.str c from h2) (fun z=>nomatch z)
 | .str b,e,v,h1,h2=>by
  have:v=.str b:=h1
  subst this
  cases e with
  | str c=>have z:V.str b=.str c:=h2; cases z; rfl
  | tup ds=>obtain ⟨p,vs,z,_⟩:=bO h2; cases z
  | non=>exact absurd (show V.str b=.non from h2) (fun z=>nomatch z)
  | bl c=>exact absurd (show V.str b=.bl c from h2) (fun z=>nomatch z)
  | int c=>exact absurd (show V.str b=.int c from h2) (fun z=>nomatch z)
 | .tup ds,e,v,h1,h2=>by
  obtain ⟨p,vs,rfl,hp,hd⟩:=bO h1
  cases e with
  | tup es =>
   obtain ⟨q,us,z,hq,he⟩:=bO h2
   cases z
   rw [hp] at hq
   cases hq
   rw [cQ.det hd he]
  | non=>exact absurd (show V.ref p=.non from h2) (fun z=>nomatch z)
  | bl c=>exact absurd (show V.ref p=.bl c from h2) (fun z=>nomatch z)
  | int c=>exact absurd (show V.ref p=.int c from h2) (fun z=>nomatch z)
  | str c=>exact absurd (show V.ref p=.str c from h2) (fun z=>nomatch z)
theorem cQ.det {H:Hp}:∀ {ds es:List D} {vs:List V},cQ H vs ds→cQ H vs es→ds=es
 | [],[],_,_,_=>rfl
 | [],_ :: _,[],_,h=>h.elim
 | [],_ :: _,_ :: _,h,_=>h.elim
 | _ :: _,[],[],h,_=>h.elim
 | _ :: _,[],_ :: _,_,h=>h.elim
 | _ :: _,_ :: _,[],h,_=>h.elim
 | d :: ds,e :: es,v :: vs,h1,h2=>by rw [Den.det h1.1 h2.1,cQ.det h1.2 h2.2]
end
open SeqAt (lQ)
theorem tO (e f:Nat→Bool) (fin:Bool):∀ r:List Nat,lQ e f fin (r.map Nat.succ)=lQ (fun i=>e (i+1)) (fun i=>f (i+1)) fin r
 | []=>rfl
 | i :: r=>by
  show (if e (i+1)=true then lQ e f fin (r.map Nat.succ) else f (i+1))=_
  rw [tO e f fin r]
  rfl
theorem nQ:∀ xs ys:List D,lQ (fun j=>eqD (xs.getD j .non) (ys.getD j .non)) (fun j=>dlt (xs.getD j .non) (ys.getD j .non)) (decide (xs.length < ys.length)) (List.range (min xs.length ys.length))=rW xs ys
 | [],[]=>rfl
 | [],y :: ys=>by rw [Gz]; simp [lQ]
 | x :: xs,[]=>by rw [Gd]; simp [lQ]
 | x :: xs,y :: ys=>by
  have ih:=nQ xs ys
  rw [m5,show min (x :: xs).length (y :: ys).length=min xs.length ys.length+1 by simp only [List.length_cons]; omega,List.range_succ_eq_map]
  show (if eqD x y=true then lQ _ _ _ ((List.range (min xs.length ys.length)).map Nat.succ) else dlt x y)=_
  rw [tO]
  have ed:decide ((x :: xs).length < (y :: ys).length)=decide (xs.length < ys.length):=by simp
  rw [ed]
  cases he:eqD x y with
  | true =>
   rw [if_pos rfl,if_pos rfl]
   simpa using ih
  | false =>
   rw [if_neg (by simp),if_neg (by simp)]
theorem allR_eq:∀ xs ys:List D,((List.range (min xs.length ys.length)).all (fun j=>eqD (xs.getD j .non) (ys.getD j .non)) && xs.length == ys.length)=eqD (.tup xs) (.tup ys):=by
 intro xs ys
 rw [Bool.eq_iff_iff,iB]
 constructor
 ·intro h
  simp only [Bool.and_eq_true,List.all_eq_true,List.mem_range,beq_iff_eq] at h
  obtain ⟨h1,h2⟩:=h
  congr 1
  apply List.ext_getElem h2
  intro i a b
  have:=iB.mp (h1 i (by omega))
  simpa [List.getD_eq_getElem?_getD,a,b] using this
 ·intro h
  injection h with h
  subst h
  simp [iB]
end L2
namespace L2
open PySem PySem.Spec PyProof.Rows
section
variable {X:Cx} {pins:List (Addr × Obj)} {σ:St} {H:Hp} {s:Shared}
theorem j8 {h h':Heap} {a:Addr} {its:Array Value} (k:SO.Keeps h h') (t:h.IsTuple a its):h'.IsTuple a its:=by
 obtain ⟨o,e,r⟩:=t
 exact ⟨o,k _ _ e,r⟩
theorem zG {s':Shared} {i j:Int} {A:Around} {x y:V} {v u:Value} (hx:Den H x (.int i)) (hy:Den H y (.int j)) (rx:RelV x v) (ry:RelV y u):SeqAt.EqAt A s' v u (eqD (.int i) (.int j)):=by
 have e1:x=.int i:=hx
 have e2:y=.int j:=hy
 subst e1
 subst e2
 obtain ⟨t,rfl⟩:=rx
 obtain ⟨t',rfl⟩:=ry
 have key:=SeqAt.EqAt.int_int (A:=A) (s:=s') i t j t'
 have e:(i == j)=eqD (.int i) (.int j):=by
  rw [Bool.eq_iff_iff,iB,beq_iff_eq]
  exact ⟨fun z=>by rw [z],fun z=>by injection z⟩
 rw [← e]
 exact key
theorem wg {s':Shared} {i j:Str} {A:Around} {x y:V} {v u:Value} (hx:Den H x (.str i)) (hy:Den H y (.str j)) (rx:RelV x v) (ry:RelV y u):SeqAt.EqAt A s' v u (eqD (.str i) (.str j)):=by
 have e1:x=.str i:=hx
 have e2:y=.str j:=hy
 subst e1
 subst e2
 obtain ⟨t,rfl⟩:=rx
 obtain ⟨t',rfl⟩:=ry
 have key:=SeqAt.EqAt.str_str (A:=A) (s:=s') i t j t'
 have e:(i == j)=eqD (.str i) (.str j):=by
  rw [Bool.eq_iff_iff,iB,beq_iff_eq]
  exact ⟨fun z=>by rw [z],fun z=>by injection z⟩
 rw [← e]
 exact key
theorem yN {s':Shared} {i j:Int} {A:Around} {x y:V} {v u:Value} (hx:Den H x (.int i)) (hy:Den H y (.int j)) (rx:RelV x v) (ry:RelV y u):SeqAt.vA A s' v u (dlt (.int i) (.int j)):=by
 have e1:x=.int i:=hx
 have e2:y=.int j:=hy
 subst e1
 subst e2
 obtain ⟨t,rfl⟩:=rx
 obtain ⟨t',rfl⟩:=ry
 intro prog w E Q h
 rw [rB] at h
 exact PyProof.Rows.lt_int h
theorem zL {s':Shared} {i j:Str} {A:Around} {x y:V} {v u:Value} (hx:Den H x (.str i)) (hy:Den H y (.str j)) (rx:RelV x v) (ry:RelV y u):SeqAt.vA A s' v u (dlt (.str i) (.str j)):=by
 have e1:x=.str i:=hx
 have e2:y=.str j:=hy
 subst e1
 subst e2
 obtain ⟨t,rfl⟩:=rx
 obtain ⟨t',rfl⟩:=ry
 intro prog w E Q h
 rw [zp] at h
 exact PyProof.Rows.lt_str h
def Lw (H:Hp) (s':Shared) (n:Nat):Prop :=
 ∀ (d e:D) (A:Around) (x y:V) (v u:Value),iT n d→iT n e→Sim d e→Den H x d→Den H y e→RelV x v→RelV y u→A.units+n < cLine→SeqAt.EqAt A s' v u (eqD d e)∧SeqAt.vA A s' v u (dlt d e)
theorem Ak (I:Inv X pins σ H s) {s':Shared} (kp:SO.Keeps s.heap s'.heap) {n:Nat} (ih:Lw H s' n) {ds es:List D} {A:Around} {x y:V} {v u:Value} (hs:iT (n+1) (.tup ds)) (hs2:iT (n+1) (.tup es))
  (hm:Sim (.tup ds) (.tup es)) (hx:Den H x (.tup ds)) (hy:Den H y (.tup es)) (rx:RelV x v) (ry:RelV y u) (hu:A.units+(n+1) < cLine):SeqAt.EqAt A s' v u (eqD (.tup ds) (.tup es))∧SeqAt.vA A s' v u (dlt (.tup ds) (.tup es)):=by
 obtain ⟨a,vs,rfl,ha,hda⟩:=bO hx
 obtain ⟨b,us,rfl,hb,hdb⟩:=bO hy
 cases rx
 cases ry
 obtain ⟨its,r1,p1,_⟩:=I.tuple (SqT.of (K:=X.K) ha)
 obtain ⟨its2,r2,p2,_⟩:=I.tuple (SqT.of (K:=X.K) hb)
 have l1:=hda.len
 have l2:=hdb.len
 have m1:=r1.length
 have m2:=r2.length
 replace hm:=qy hm
 have both:∀ j (h1:j < its.toArray.size) (h2:j < its2.toArray.size),SeqAt.EqAt A.in1 s' its.toArray[j] its2.toArray[j] (eqD (ds.getD j .non) (es.getD j .non))∧SeqAt.vA A.in1 s' its.toArray[j] its2.toArray[j] (dlt (ds.getD j .non) (es.getD j .non)):=by
  intro j h1 h2
  have hj1:j < vs.length:=by simpa [m1] using h1
  have hj2:j < us.length:=by simpa [m2] using h2
  obtain ⟨d1,g1,b1⟩:=hda.at_ (List.getElem?_eq_getElem hj1)
  obtain ⟨d2,g2,b2⟩:=hdb.at_ (List.getElem?_eq_getElem hj2)
  obtain ⟨w1,hw1,rw1⟩:=r1.get (List.getElem?_eq_getElem hj1)
  obtain ⟨w2,hw2,rw2⟩:=r2.get (List.getElem?_eq_getElem hj2)
  have q1:its.toArray[j]=w1:=by
   have:=(List.getElem?_eq_some_iff.mp hw1).2
   simpa using this
  have q2:its2.toArray[j]=w2:=by
   have:=(List.getElem?_eq_some_iff.mp hw2).2
   simpa using this
  rw [q1,q2]
  rw [List.getD_eq_getElem?_getD,List.getD_eq_getElem?_getD,g1,g2]
  have s1:=(hs.2 ds rfl).2 d1 (List.mem_of_getElem? g1)
  have s2:=(hs2.2 es rfl).2 d2 (List.mem_of_getElem? g2)
  exact ih d1 d2 A.in1 _ _ _ _ s1 s2 (hm.at_ g1 g2) b1 b2 rw1 rw2 (by first | (simp only [Around.in1]; omega) | omega)
 constructor
 ·by_cases hab:a=b
  ·subst hab
   have e:=Den.det hx hy
   rw [iB.mpr e]
   exact SeqAt.EqAt.same _
  ·have key:=SeqAt.EqAt.of_refs hab (SeqAt.RcAt.tuples (A:=A) (s:=s') (e:=fun j=>eqD (ds.getD j .non) (es.getD j .non)) (j8 kp p1) (j8 kp p2) (by omega) fun j h1 h2=>(both j h1 h2).1)
   have q:=allR_eq ds es
   rw [show ds.length=its.toArray.size by simp; omega,show es.length=its2.toArray.size by simp; omega] at q
   rw [q] at key
   exact key
 ·have key:=SeqAt.vA.tuples (A:=A) (s:=s') (e:=fun j=>eqD (ds.getD j .non) (es.getD j .non)) (f:=fun j=>dlt (ds.getD j .non) (es.getD j .non)) (j8 kp p1) (j8 kp p2) (by omega)
   (fun j h1 h2=>(both j h1 h2).1) (fun j h1 h2 _=>(both j h1 h2).2)
  have q:=nQ ds es
  rw [show ds.length=its.toArray.size by simp; omega,show es.length=its2.toArray.size by simp; omega] at q
  rw [q] at key
  rw [DW]
  exact key
theorem gW {P:D→D→Prop} (hi:∀ i j,P (.int i) (.int j)) (hs:∀ i j,P (.str i) (.str j)) (ht:∀ xs ys,qH xs ys→P (.tup xs) (.tup ys)):∀ {d e:D},Sim d e→P d e:=by
 intro d e h
 cases d <;> cases e <;> first | exact hi _ _ | exact hs _ _ | exact ht _ _ (qy h) | exact False.elim h
theorem JX (I:Inv X pins σ H s) {s':Shared} (kp:SO.Keeps s.heap s'.heap):∀ n:Nat,Lw H s' n:=by
 intro n
 induction n with
 | zero =>
  intro d e A x y v u hs hs2 hm
  revert hs hs2
  refine gW (P:=fun d e=>iT 0 d→iT 0 e→Den H x d→Den H y e→RelV x v→RelV y u→A.units+0 < cLine→SeqAt.EqAt A s' v u (eqD d e)∧SeqAt.vA A s' v u (dlt d e)) ?_ ?_ ?_ hm
  ·exact fun i j _ _ hx hy rx ry _=>⟨zG hx hy rx ry,yN hx hy rx ry⟩
  ·exact fun i j _ _ hx hy rx ry _=>⟨wg hx hy rx ry,zL hx hy rx ry⟩
  ·exact fun xs ys _ hs _ _ _ _ _ _=>absurd rfl (hs.2 xs)
 | succ n ih =>
  intro d e A x y v u hs hs2 hm
  revert hs hs2
  refine gW (P:=fun d e=>iT (n+1) d→iT (n+1) e→Den H x d→Den H y e→RelV x v→RelV y u→A.units+(n+1) < cLine→SeqAt.EqAt A s' v u (eqD d e)∧SeqAt.vA A s' v u (dlt d e)) ?_ ?_ ?_ hm
  ·exact fun i j _ _ hx hy rx ry _=>⟨zG hx hy rx ry,yN hx hy rx ry⟩
  ·exact fun i j _ _ hx hy rx ry _=>⟨wg hx hy rx ry,zL hx hy rx ry⟩
  ·exact fun xs ys hm hs hs2 hx hy rx ry hu=>Ak I kp ih hs hs2 (z6 hm) hx hy rx ry hu
end
end L2
set_option maxHeartbeats 400000
namespace SO
open PySem PySem.W PyProof.Rows
section
variable {prog:Program} {w:World} {A:Around} {E:Value→Shared→Prop} {s:Shared}
theorem rm {l:Addr} {c:String} {vs:List Value} {o:Obj} {n:Nat} {Q:List Value→Shared→Prop} (ho:s.heap.get? l=some o) (hc:o.cls=.type c) (hcc:c = "list"∨c = "tuple") (hd:o.data=.seq vs.toArray n)
  (h:Q vs { s with heap:=(s.heap.push (seqObj "list" #[] 0)).update s.heap.objs.size (Obj.mapSeq (· ++ vs.toArray)) }) (hsz:vs.length≤sizeLine) :
  wpAny (model prog w) A (collect (.ref l)) Q E s:=by
 unfold collect
 refine wpAny_bind (wpAny_runValue (codeAny_builtin entry_proto_collect' ?_))
 show wpAny _ _ (do again (.builtin "list.__iadd__" ⟨[← newList [],.ref l],[]⟩)) _ _ s
 refine wpAny_bind (wpAny_newList (wpAny_pure ⟨Code.quiet_builtin _ (by decide +kernel),codeAny_builtin entry_list_iadd' ?_⟩))
 show wpAny _ _ (Builtin.List.listExtendWith (.ref s.heap.objs.size) (.ref l) (.ref s.heap.objs.size)) _ _ { s with heap:=s.heap.push (seqObj "list" #[] 0) }
 unfold Builtin.List.listExtendWith
 have ho':(s.heap.push (seqObj "list" #[] 0)).get? l=some o:=Heap.get?_push_of_some _ ho
 refine wpAny_bind (wpAny_typeOf (T:=c) ⟨o,ho',hc⟩ ?_)
 rw [if_pos (by rcases hcc with rfl | rfl <;> simp)]
 refine wpAny_bind (listItems_at ho' hd ?_)
 refine wpAny_bind (listItems_at (xs:=#[]) (n:=0) (Heap.get?_push_size _ rfl) rfl ?_)
 rw [if_neg (by simp)]
 refine wpAny_bind (listUpdate_at (xs:=#[]) (n:=0) (Heap.get?_push_size _ rfl) rfl ?_ (Nat.zero_le _) (by show (#[]++vs.toArray).size≤sizeLine+1; simp only [Array.size_append,List.size_toArray,List.length_nil]; omega))
 refine wpAny_pure ?_
 show wpAny (model prog w) A (do
   let o ← load s.heap.objs.size
   match o.data with
   | .seq xs _=>pure xs.toList
   | _=>unsupported "internal:collect") Q E { s with heap:=(s.heap.push (seqObj "list" #[] 0)).update s.heap.objs.size (Obj.mapSeq (· ++ vs.toArray)) }
 refine wpAny_bind (wpAny_load (get?_update_seq (Heap.get?_push_size _ rfl) _) ?_)
 show wpAny _ _ (pure ((#[]:Array Value)++vs.toArray).toList) Q E _
 rw [show ((#[]:Array Value)++vs.toArray).toList=vs by simp]
 exact wpAny_pure h
theorem Dd {b fin:Bool} {Q:Bool→Shared→Prop} {e f:Nat→Bool}:∀ (l:List (Value × Value)) (i:Nat),(∀ j p q,l[j]?=some (p,q)→SeqAt.EqAt A s p q (e (i+j))) →
  (∀ j p q,l[j]?=some (p,q)→e (i+j)=false→∀ (Q:Bool→Shared→Prop) (E:Value→Shared→Prop),Q (f (i+j)) s→wpAny (model prog w) A (oneLt' (b && (i+j) == 0) p q) Q E s) →
  Q (SeqAt.lQ e f fin (List.range' i l.length)) s→KatLex prog w A b fin Q l i s
 | [],i,_,_,h=>kat_nil h
 | (p,q) :: l,i,he,hf,h=>by
  refine kat_cons ((he 0 p q rfl) prog w _ _ ?_)
  rw [Nat.add_zero]
  have h':Q (if e i=true then SeqAt.lQ e f fin (List.range' (i+1) l.length) else f i) s:=h
  cases hy:e i with
  | true =>
   rw [hy,if_pos rfl] at h'
   exact kat_yes (Dd l (i+1) (fun j p q z=>by rw [show i+1+j=i+(j+1) by omega]; exact he (j+1) p q (by simpa using z)) (fun j p q z=>by rw [show i+1+j=i+(j+1) by omega]; exact hf (j+1) p q (by simpa using z)) h')
  | false =>
   rw [hy,if_neg (by simp)] at h'
   exact kat_no (by have:=hf 0 p q rfl (by simpa using hy) Q (fun _ _=>False) (by simpa using h'); simpa using this)
end
end SO
namespace L2
open PySem PySem.Spec PyProof.Rows
open SeqAt (lQ)
def Hom (ds:List D):Prop:=(∀ a∈ds,∀ b∈ds,Sim a b)∧((∀ d∈ds,∃ i,d=.int i)∨(∀ d∈ds,∃ x,d=.str x)∨(∀ d∈ds,∃ e r,d=.tup (e :: r)))
def Hl (K:PySem.W.Frag):List V→Hp→VK→Prop:=fun xs H Q=>∃ (p:Addr) (vs:List V) (ds:List D),xs=[.ref p]∧(SqL K H p vs∨SqT K H p vs)∧cQ H vs ds∧Hom ds∧ds.length < 64∧(∀ d∈ds,iT 50 d) ∧
 ∀ (l:Addr) (us:List V) (ds':List D),H l=none→ds'.Perm ds→UpD ds'→cQ H us ds'→Q (.ref l) (upd H l (.lst us))
theorem tK {H:Hp} {vs:List V} {ds:List D} (h:cQ H vs ds):∀ l:List Nat,(∀ i∈l,i < ds.length)→cQ H (l.map fun i=>vs.getD i .non) (l.map fun i=>ds.getD i .non)
 | [],_=>trivial
 | i :: l,hl=>by
  refine ⟨?_,tK h l fun j hj=>hl j (.tail _ hj)⟩
  have hi:i < vs.length:=by rw [h.len]; exact hl i (.head _)
  obtain ⟨d,hd,r⟩:=h.at_ (List.getElem?_eq_getElem hi)
  dsimp only
  rw [List.getD_eq_getElem?_getD,List.getD_eq_getElem?_getD,hd,List.getElem?_eq_getElem hi]
  exact r
theorem uy {vs:List V} {its:List Value} (h:Vals vs its):∀ l:List Nat,(∀ i∈l,i < vs.length)→Vals (l.map fun i=>vs.getD i .non) (l.map fun i=>its.getD i Value.none)
 | [],_=>.nil
 | i :: l,hl=>by
  refine .cons ?_ (uy h l fun j hj=>hl j (.tail _ hj))
  have hi:i < vs.length:=hl i (.head _)
  obtain ⟨d,hd,r⟩:=h.get (List.getElem?_eq_getElem hi)
  dsimp only
  rw [List.getD_eq_getElem?_getD,List.getD_eq_getElem?_getD,hd,List.getElem?_eq_getElem hi]
  exact r
section
variable {X:Cx} {pins:List (Addr × Obj)} {σ:St} {H:Hp} {s:Shared}
theorem at3 {vs:List V} {ds:List D} {its:List Value} (hd:cQ H vs ds) (r:Vals vs its) {i:Nat} (hi:i < ds.length):∃ (x:V) (v:Value),vs[i]?=some x∧its[i]?=some v∧its.getD i Value.none=v∧Den H x (ds.getD i .non)∧RelV x v∧ds.getD i .non∈ds:=by
 have hv:i < vs.length:=by rw [hd.len]; exact hi
 obtain ⟨d,g,b⟩:=hd.at_ (List.getElem?_eq_getElem hv)
 obtain ⟨u,hu,ru⟩:=r.get (List.getElem?_eq_getElem hv)
 have e:ds.getD i .non=d:=by rw [List.getD_eq_getElem?_getD,g]; rfl
 rw [e]
 exact ⟨_,u,List.getElem?_eq_getElem hv,hu,by rw [List.getD_eq_getElem?_getD,hu]; rfl,b,ru,List.mem_of_getElem? g⟩
theorem xK {s':Shared} {prog:Program} {w:World} {A:Around} {v u:Value} {b:Bool} (h:SeqAt.vA A s' v u b) (Q:Bool→Shared→Prop) (E:Value→Shared→Prop) (q:Q b s'):wpAny (model prog w) A (oneLt' false v u) Q E s' :=
 PySem.W.kat_one v u (h prog w E _ q)
theorem uw {s':Shared} {prog:Program} {w:World} {A:Around} {x y:V} {d e:D} {v u:Value} (hm:Sim d e) (hd:Den H x d) (he:Den H y e) (rx:RelV x v) (ry:RelV y u) (nt:∀ ds,d≠.tup ds) (Q:Bool→Shared→Prop) (E:Value→Shared→Prop) (q:Q (dlt d e) s') :
  wpAny (model prog w) A (oneLt' true v u) Q E s':=by
 revert hd he nt q
 refine gW (P:=fun d e=>Den H x d→Den H y e→(∀ ds,d≠.tup ds)→Q (dlt d e) s'→wpAny (model prog w) A (oneLt' true v u) Q E s') ?_ ?_ ?_ hm
 ·intro i j hx hy _ q
  have e1:x=.int i:=hx
  have e2:y=.int j:=hy
  subst e1
  subst e2
  obtain ⟨t,rfl⟩:=rx
  obtain ⟨t',rfl⟩:=ry
  rw [rB] at q
  exact oneLt_int q
 ·intro i j hx hy _ q
  have e1:x=.str i:=hx
  have e2:y=.str j:=hy
  subst e1
  subst e2
  obtain ⟨t,rfl⟩:=rx
  obtain ⟨t',rfl⟩:=ry
  rw [zp] at q
  exact oneLt_str q
 ·intro xs ys _ _ _ nt _
  exact absurd rfl (nt xs)
theorem Ai {M:Model} {x:V} {v:Value} {d:D} (I:Inv X pins σ H s) {h':Heap} (kp:SO.Keeps s.heap h') (hd:Den H x d) (rx:RelV x v):(∀ i,d=.int i→PySem.W.Looks M h' (typeOf v) (.type "int"))∧(∀ i,d=.str i→PySem.W.Looks M h' (typeOf v) (.type "str")) ∧
  (∀ ds,d=.tup ds→PySem.W.Looks M h' (typeOf v) (.type "tuple")):=by
 refine ⟨fun i e=>?_,fun i e=>?_,fun ds e=>?_⟩
 ·subst e
  have e1:x=.int i:=hd
  subst e1
  obtain ⟨t,rfl⟩:=rx
  exact PySem.W.Looks.of_pure rfl
 ·subst e
  have e1:x=.str i:=hd
  subst e1
  obtain ⟨t,rfl⟩:=rx
  exact PySem.W.Looks.of_pure rfl
 ·subst e
  obtain ⟨a,vs,rfl,ha,hda⟩:=bO hd
  cases rx
  obtain ⟨its,r1,⟨o,eo,ec,_⟩,_⟩:=I.tuple (SqT.of (K:=X.K) ha)
  rw [← ec]
  exact (PySem.W.Looks.ld (kp _ _ eo)).andThen .now
def tyD:D→Value
 | .int _=>.type "int"
 | .str _=>.type "str"
 | _=>.type "tuple"
theorem Gh {d e:D} (h:Sim d e):tyD d=tyD e:=gW (P:=fun d e=>tyD d=tyD e) (fun _ _=>rfl) (fun _ _=>rfl) (fun _ _ _=>rfl) h
theorem Az (d:D):(tyD d == tyD d)=true:=by cases d <;> rfl
theorem Ft {d e:D} (hm:Sim d e) (h:(tyD d != .type "tuple")=true):∀ ds,d≠.tup ds:=by
 intro ds z
 subst z
 exact absurd (show (Value.type "tuple" != Value.type "tuple")=true from h) (by decide)
theorem sY {M:Model} {x:V} {v:Value} {d e:D} (I:Inv X pins σ H s) {h':Heap} (kp:SO.Keeps s.heap h') (hm:Sim d e) (hd:Den H x d) (rx:RelV x v):PySem.W.Looks M h' (typeOf v) (tyD d):=by
 obtain ⟨a,b,c⟩:=Ai (M:=M) I kp hd rx
 revert a b c
 exact gW (P:=fun d e=>(∀ i,d=.int i→PySem.W.Looks M h' (typeOf v) (.type "int"))→(∀ i,d=.str i→PySem.W.Looks M h' (typeOf v) (.type "str"))→(∀ ds,d=.tup ds→PySem.W.Looks M h' (typeOf v) (.type "tuple"))→PySem.W.Looks M h' (typeOf v) (tyD d))
  (fun i _ a _ _=>a i rfl) (fun i _ _ b _=>b i rfl) (fun xs _ _ _ _ c=>c xs rfl) hm
theorem kat_tups (I:Inv X pins σ H s) {h':Heap} (kp:SO.Keeps s.heap h'):∀ {vs:List V} {ds:List D} {its:List Value},cQ H vs ds→Vals vs its→(∀ d∈ds,∃ e r,d=.tup (e :: r)) →
  ∃ fs,PySem.W.KatTups h' its fs∧fs.length=its.length∧∀ v∈fs,∃ (x:V) (d:D) (r:List D),Den H x d∧RelV x v∧D.tup (d :: r)∈ds
 | [],[],_,_,.nil,_=>⟨[],trivial,rfl,fun v hv=>by cases hv⟩
 | x :: vs,d :: ds,_,hd,.cons r rr,ht=>by
  obtain ⟨fs,k,l,m⟩:=kat_tups I kp hd.2 rr fun d hd=>ht d (.tail _ hd)
  obtain ⟨e,r0,rfl⟩:=ht d (.head _)
  obtain ⟨a,ws,rfl,ha,hda⟩:=bO hd.1
  cases r
  obtain ⟨its1,r1,⟨o,eo,ec,n,ed⟩,_⟩:=I.tuple (SqT.of (K:=X.K) ha)
  match ws,its1,hda,r1,ed with
  | w0 :: ws,_ :: its1,hda,.cons q0 q,ed =>
   refine ⟨_ :: fs,PySem.W.KatTups.cons (kp _ _ eo) ec ed (by simp; rfl) k,by simp [l],fun v hv=>?_⟩
   rcases List.mem_cons.mp hv with rfl | hv
   ·exact ⟨w0,e,r0,hda.1,q0,.head _⟩
   ·obtain ⟨x,d,r,z1,z2,z3⟩:=m v hv
    exact ⟨x,d,r,z1,z2,.tail _ z3⟩
  | [],_,hda,_,_=>exact hda.elim
theorem mD {E:Value→Shared→Prop} (I:Inv X pins σ H s) {a:Addr} {c:String} {o:Obj} {n:Nat} {vs:List V} {ds:List D} {its:List Value} {Q:VK} (κ:SortKind) (ho:s.heap.get? a=some o) (hc:o.cls=.type c) (hcc:c = "list"∨c = "tuple") (hd:o.data=.seq its.toArray n)
  (hD:cQ H vs ds) (r:Vals vs its) (h64:ds.length < 64)
  (hk:2≤its.length→∀ h',SO.Keeps s.heap h'→∀ (E:Value→Shared→Prop) (Q:SortKind→Shared→Prop),Q κ { s with heap:=h' }→wpAny (model X.prog X.w) X.A.in1.in1 (keyKind' its.toArray) Q E { s with heap:=h' })
  (hcm:∀ h',SO.Keeps s.heap h'→SO.Cmp (O:=J3) (fun i=>ds.getD i .non) its.length (PySem.W.kas_ask X.prog X.w X.A.in1.in1 κ its) { s with heap:=h' })
  (q:∀ (l:Addr) (us:List V) (ds':List D),H l=none→ds'.Perm ds→UpD ds'→cQ H us ds'→Q (.ref l) (upd H l (.lst us))):wpAny (model X.prog X.w) X.A (call (.builtin "sorted") [.ref a]) (EP X pins σ Q) E s:=by
 have l1:=hD.len
 have l2:=r.length
 have kg:SO.Keeps s.heap ((s.heap.push (seqObj "list" #[] 0)).update s.heap.objs.size (Obj.mapSeq (· ++ its.toArray))):=fun b u e=>by
  rw [Heap.get?_update_ne _ _ _ _ (Nat.ne_of_lt (Heap.lt_size e))]
  exact Heap.get?_push_of_some _ e
 refine SO.zY (O:=J3) (vs:=its) (fun i=>ds.getD i .non) κ (by omega) kg (fun Q q=>SO.rm ho hc hcc hd q (by rw [sizeLine_eq]; omega)) hk hcm fun g' p kp hp hs hob=>?_
 obtain ⟨m,hob⟩:=hob
 have hlt:∀ i∈p.toList,i < its.length:=fun i hi=>List.mem_range.mp (hp.mem_iff.mp hi)
 have hsz:s.heap.objs.size≤((s.heap.push (seqObj "list" #[] 0)).update s.heap.objs.size (Obj.mapSeq (· ++ its.toArray))).objs.size:=by
  rw [Heap.size_update,size_push']
  exact Nat.le_succ _
 have hps:p.toList.length=its.length:=by simpa using hp.length_eq
 have hU:=uy r p.toList fun i hi=>by rw [l2]; exact hlt i hi
 refine ⟨.ref _,_,I.laid (t':=s.toks) (o:=.lst (p.toList.map fun i=>vs.getD i .non)) kp hsz ⟨?_,_,m,hU,hob⟩,rfl,q _ _ (p.toList.map fun i=>ds.getD i .non) (I.hok.fresh hsz) ?_ ?_ (tK hD _ fun i hi=>by have:=hlt i hi; omega)⟩
 ·rw [List.length_map,sizeLine_eq]
  omega
 ·have e:(List.range its.length).map (fun i=>ds.getD i .non)=ds:=by
   apply List.ext_getElem
   ·simp; omega
   ·intro i h1 h2
    simp [List.getD_eq_getElem?_getD,h2]
  have:=hp.map fun i=>ds.getD i D.non
  rw [e] at this
  exact this
 ·unfold UpD
  rw [List.pairwise_iff_getElem]
  intro i j hi hj hij
  have h:=hs i j (Nat.le_of_lt hij) (by simpa [hps] using hj)
  have e:∀ k (hk:k < p.toList.length),SO.KN (O:=J3) (fun i=>ds.getD i .non) p k=(p.toList.map fun i=>ds.getD i D.non)[k]'(by rw [List.length_map]; exact hk):=by
   intro k hk
   have hk':k < p.size:=by simpa using hk
   unfold SO.KN
   rw [List.getElem_map]
   congr 1
   simp [Array.getD,hk']
  rw [e i (by simpa using hi),e j (by simpa using hj)] at h
  exact h
theorem oV (hu:X.A.units+64 < cLine):fK X (.builtin "sorted") (Hl X.K):=by
 intro pins s σ H xs us Q I r h
 obtain ⟨a,vs,ds,rfl,hp,hD,hom,h64,hsh,q⟩:=h
 obtain ⟨u,rfl,rx⟩:=vals1 r
 cases rx
 obtain ⟨its,rv,c,o,n,hcc,ho,hc,hd⟩:∃ its:List Value,Vals vs its∧∃ (c:String) (o:Obj) (n:Nat),(c = "list"∨c = "tuple")∧s.heap.get? a=some o∧o.cls=.type c∧o.data=.seq its.toArray n:=by
  rcases hp with hp | hp
  ·obtain ⟨its,rv,pl,_⟩:=I.list hp
   obtain ⟨o,ho,hc,n,hd⟩:=pl.isList
   exact ⟨its,rv, "list",o,n,.inl rfl,ho,hc,hd⟩
  ·obtain ⟨its,rv,⟨o,ho,hc,n,hd⟩,_⟩:=I.tuple hp
   exact ⟨its,rv, "tuple",o,n,.inr rfl,ho,hc,hd⟩
 have l1:=hD.len
 have l2:=rv.length
 have one:(∀ d∈ds,∀ xs,d≠.tup xs)→∀ T,(T != Value.type "tuple")=true→(T == T)=true→(∀ d∈ds,tyD d=T)→wpAny (model X.prog X.w) X.A (call (.builtin "sorted") [.ref a]) (EP X pins σ Q) X.xe s:=by
  intro nt T hT1 hT2 hT
  refine mD I oneType' ho hc hcc hd hD rv h64 (fun h2 h' kp E Q q=>?_) (fun h' kp i j C hi hj q=>?_) q
  ·refine PySem.W.kas_kind h2 (T:=T) (fun v hv=>?_) hT1 hT2 q
   obtain ⟨i,hi,rfl⟩:=List.mem_iff_getElem.mp hv
   obtain ⟨x,v,e1,e2,e3,e4,e5,e6⟩:=at3 (i:=i) hD rv (by omega)
   rw [List.getElem?_eq_getElem hi] at e2
   cases e2
   rw [← hT _ e6]
   exact sY I kp (hom.1 _ e6 _ e6) e4 e5
  ·obtain ⟨x,v,e1,e2,e3,e4,e5,e6⟩:=at3 (i:=i) hD rv (by omega)
   obtain ⟨y,u,f1,f2,f3,f4,f5,f6⟩:=at3 (i:=j) hD rv (by omega)
   unfold PySem.W.kas_ask
   rw [e3,f3,keyLt'_oneType]
   exact uw (hom.1 _ e6 _ f6) e4 f4 e5 f5 (nt _ e6) _ _ q
 rcases hom.2 with hi | hi | hi
 ·exact one (fun d hd xs e=>by obtain ⟨i,z⟩:=hi d hd; rw [z] at e; cases e) (.type "int") (by decide) (by rfl) (fun d hd=>by obtain ⟨i,z⟩:=hi d hd; rw [z]; rfl)
 ·exact one (fun d hd xs e=>by obtain ⟨i,z⟩:=hi d hd; rw [z] at e; cases e) (.type "str") (by decide) (by rfl) (fun d hd=>by obtain ⟨i,z⟩:=hi d hd; rw [z]; rfl)
 ·obtain ⟨T,hT2,hT⟩:∃ T:Value,(T == T)=true∧∀ d r,D.tup (d :: r)∈ds→tyD d=T∧Sim d d:=by
   cases hds:ds with
   | nil=>exact ⟨.type "int",by rfl,fun d r z=>by cases z⟩
   | cons d0 ds0 =>
    obtain ⟨e0,r0,rfl⟩:=hi d0 (by rw [hds]; exact .head _)
    refine ⟨tyD e0,Az e0,fun d r z=>?_⟩
    have s1:=hom.1 _ (show D.tup (d :: r)∈ds by rw [hds]; exact z) (.tup (e0 :: r0)) (by rw [hds]; exact .head _)
    have s2:=hom.1 _ (show D.tup (d :: r)∈ds by rw [hds]; exact z) (.tup (d :: r)) (by rw [hds]; exact z)
    replace s1:=m8 (qy s1)
    replace s2:=m8 (qy s2)
    exact ⟨Gh s1.1,s2.1⟩
  refine mD I (tuples' (T != Value.type "tuple")) ho hc hcc hd hD rv h64 (fun h2 h' kp E Q q=>?_) (fun h' kp i j C hi' hj q=>?_) q
  ·obtain ⟨fs,k,l,m⟩:=kat_tups I kp hD rv hi
   refine PySem.W.kat_kind k (by omega) (T:=T) (fun v hv=>?_) hT2 q
   obtain ⟨x,d,r,z1,z2,z3⟩:=m v hv
   obtain ⟨t1,t2⟩:=hT d r z3
   rw [← t1]
   exact sY I kp t2 z1 z2
  ·obtain ⟨x,v,e1,e2,e3,e4,e5,e6⟩:=at3 (i:=i) hD rv (by omega)
   obtain ⟨y,u,f1,f2,f3,f4,f5,f6⟩:=at3 (i:=j) hD rv (by omega)
   unfold PySem.W.kas_ask
   rw [e3,f3]
   have hq:C (dlt (ds.getD i .non) (ds.getD j .non)) { s with heap:=h' }:=q
   obtain ⟨d1,r1,E1⟩:=hi _ e6
   obtain ⟨d2,r2,E2⟩:=hi _ f6
   have sh1:=hsh _ e6
   have sh2:=hsh _ f6
   have sm:=hom.1 _ e6 _ f6
   rw [E1] at e4 e6 hq sh1 sm
   rw [E2] at f4 f6 hq sh2 sm
   obtain ⟨a1,w1,rfl,ha1,hda1⟩:=bO e4
   obtain ⟨a2,w2,rfl,ha2,hda2⟩:=bO f4
   cases e5
   cases f5
   obtain ⟨its1,v1,⟨o1,eo1,ec1,n1,ed1⟩,_⟩:=I.tuple (SqT.of (K:=X.K) ha1)
   obtain ⟨its2,v2,⟨o2,eo2,ec2,n2,ed2⟩,_⟩:=I.tuple (SqT.of (K:=X.K) ha2)
   have k1:=hda1.len
   have k2:=hda2.len
   have k3:=v1.length
   have k4:=v2.length
   replace sm:=qy sm
   have cm:=JX I (s':={ s with heap:=h' }) kp 49
   have each:∀ (k:Nat) (p q:Value),(its1.zip its2)[k]?=some (p,q)→∃ (x y:V),Den H x ((d1 :: r1).getD k .non)∧Den H y ((d2 :: r2).getD k .non)∧RelV x p∧RelV y q∧Sim ((d1 :: r1).getD k .non) ((d2 :: r2).getD k .non)∧iT 49 ((d1 :: r1).getD k .non)∧iT 49 ((d2 :: r2).getD k .non):=by
    intro k p q hz
    rw [List.getElem?_zip_eq_some] at hz
    have b1:k < its1.length:=(List.getElem?_eq_some_iff.mp hz.1).1
    have b2:k < its2.length:=(List.getElem?_eq_some_iff.mp hz.2).1
    obtain ⟨x1,p1,_,g1,_,g2,g3,g4⟩:=at3 (i:=k) hda1 v1 (by omega)
    obtain ⟨x2,p2,_,g1',_,g2',g3',g4'⟩:=at3 (i:=k) hda2 v2 (by omega)
    rw [hz.1] at g1
    rw [hz.2] at g1'
    cases g1
    cases g1'
    refine ⟨x1,x2,g2,g2',g3,g3',sm.at_ (i:=k) ?_ ?_,(sh1.2 _ rfl).2 _ g4,(sh2.2 _ rfl).2 _ g4'⟩
    ·rw [List.getD_eq_getElem?_getD,List.getElem?_eq_getElem (by omega)]; rfl
    ·rw [List.getD_eq_getElem?_getD,List.getElem?_eq_getElem (by omega)]; rfl
   refine PySem.W.kat_lt (kp _ _ eo1) ed1 (kp _ _ eo2) ed2 (SO.Dd (e:=fun k=>eqD ((d1 :: r1).getD k .non) ((d2 :: r2).getD k .non)) (f:=fun k=>dlt ((d1 :: r1).getD k .non) ((d2 :: r2).getD k .non)) _ 0 (fun k p q z=>?_) (fun k p q z _ Q E hq=>?_) ?_)
   ·obtain ⟨x,y,h1,h2,h3,h4,h5,h6,h7⟩:=each k p q z
    rw [Nat.zero_add]
    exact (cm _ _ _ _ _ _ _ h6 h7 h5 h1 h2 h3 h4 (by simp only [Around.in1]; omega)).1
   ·obtain ⟨x,y,h1,h2,h3,h4,h5,h6,h7⟩:=each k p q z
    rw [Nat.zero_add] at hq ⊢
    have lt:=(cm _ _ X.A.in1.in1 _ _ _ _ h6 h7 h5 h1 h2 h3 h4 (by simp only [Around.in1]; omega)).2
    cases hb:(T != Value.type "tuple") && k == 0 with
    | false=>exact xK lt Q E hq
    | true =>
     rw [Bool.and_eq_true,beq_iff_eq] at hb
     obtain ⟨hb,rfl⟩:=hb
     have t1:=hT d1 r1 e6
     exact uw h5 h1 h2 h3 h4 (show ∀ ds,d1≠.tup ds from Ft t1.2 (by rw [t1.1]; exact hb)) Q E hq
   ·have hl:=nQ (d1 :: r1) (d2 :: r2)
    have e:List.range' 0 (its1.toArray.toList.zip its2.toArray.toList).length=List.range (min (d1 :: r1).length (d2 :: r2).length):=by
     rw [List.range_eq_range']
     congr 1
     simp only [List.length_zip]
     omega
    have ef:decide (its1.toArray.size < its2.toArray.size)=decide ((d1 :: r1).length < (d2 :: r2).length):=by
     rw [show its1.toArray.size=(d1 :: r1).length by simp at k1 k3 ⊢; omega,show its2.toArray.size=(d2 :: r2).length by simp at k2 k4 ⊢; omega]
    rw [e,ef,hl]
    rw [DW] at hq
    exact hq
end
end L2
namespace PySem.SeqAt
open AutoSeq1 (wpAny_loadPart')
open MeetsSeq MeetsSeq2 MeetsSeq3 SeqRoads2
end PySem.SeqAt
namespace L2
open PySem PySem.Spec PyProof.Rows
end L2
namespace L2
open PySem PySem.Spec PyProof.Rows
end L2
namespace L2
open PySem
structure Mw (xs:List (List Nat)):Prop where
 len:xs.length=70
 nd:xs.Nodup
 nm:∀ x∈xs,isNm ⟨x.toArray⟩=true
end L2
namespace L2
open PySem PySem.Spec PyProof.Rows
theorem Jw {sc:Scope} {ns:List (Str × NameKind)} (h:∀ y∈ns,y.2≠.free):∀ y∈ns,y.2=.free→sc.names.lookup y.1=some .cell∨sc.names.lookup y.1=some .free:=fun y hy hf=>absurd hf (h y hy)
theorem Bd {X:Cx} {K:PySem.W.Frag} {tg l:Expr} {tl:TE} (hK:X.K=K) (hl:PE X l tl):PI X tg l (El K tl):=by subst hK; exact cZ hl
end L2
namespace L2
open PySem PySem.Spec PyProof.Rows
def KTup (K:PySem.W.Frag) (a:Addr) (xs:List V):Prop:=∃ (o:Obj) (its:Array Value) (n:Nat),K.lookup a=some o∧o.cls=.type "tuple"∧o.data=.seq its n∧its.size≤sizeLine∧Vals xs its.toList
theorem KTup.sq {K:PySem.W.Frag} {a:Addr} {xs:List V} {H:Hp} (h:KTup K a xs):SqT K H a xs:=.inr h
theorem gR {K:PySem.W.Frag} {a:Addr} {dd:Option Addr} {its:Array Value} {n:Nat} {sl:Array (Option Value)} {xs:List V} (h:K.lookup a=some ⟨.type "tuple",dd,.seq its n,sl⟩) (hz:its.size≤sizeLine) (r:Vals xs its.toList):KTup K a xs:=⟨_,its,n,h,rfl,rfl,hz,r⟩
end L2
set_option maxHeartbeats 4000000
namespace L2
open PySem PySem.Spec PyProof.Rows
end L2
namespace MN
open PySem
abbrev kwD (d:Value):List (Str × Value):=[(Str.ofString "default",d)]
section
variable {prog:Program} {w:World} {A:Around} {R:Result→Shared→Prop} {It:Addr} {fp wr:List Addr} {n:Nat} {Pr:Nat→Value→Prop} {Sx:Nat→Heap→Prop}
end
section
variable {prog:Program} {w:World} {A:Around} {E:Value→Shared→Prop} {s:Shared}
end
end MN
namespace L2
open PySem PySem.Spec PyProof.Rows
theorem uQ {ns:List Int} {its:List Value} (r:Vals (ns.map V.int) its):∃ xs:Array (Int × Tok),its.toArray=intItems xs∧xs.toList.map (·.1)=ns:=by
 induction ns generalizing its with
 | nil =>
  cases r
  exact ⟨#[],by simp [intItems],rfl⟩
 | cons n ns ih =>
  cases r with
  | cons r1 r2 =>
   obtain ⟨t,rfl⟩:=r1
   obtain ⟨xs,e1,e2⟩:=ih r2
   refine ⟨((n,t) :: xs.toList).toArray,?_,?_⟩
   ·have e3:_=(intItems xs).toList:=congrArg Array.toList e1
    simp only [intItems,Array.toList_map] at e3
    simp [intItems,e3]
   ·simp [e2]
def Ls (K:PySem.W.Frag):R2:=fun x y H Q=>∃ (l b:Addr) (xs:List V),x=.ref l∧y=.ref b∧SqT K H l xs∧SqT K H b []∧Q (.bl (!xs.isEmpty)) H
theorem yX {X:Cx} (hu:X.A.units < cLine):OpR X (compareOp .NotEq) (Ls X.K):=by
 intro pins s σ H x y v u Q I rx ry h
 obtain ⟨l,b,xs,rfl,rfl,hl,hb,q⟩:=h
 cases rx
 cases ry
 obtain ⟨its,r1,p1,_⟩:=I.tuple hl
 obtain ⟨its2,r2,p2,_⟩:=I.tuple hb
 cases r2
 have m1:=r1.length
 have key:=SeqAt.RcNeAt.tuples (A:=X.A) (s:=s) (e:=fun _=>true) p1 p2 hu fun j h1 h2=>absurd h2 (by simp)
 have e:(!((List.range (min its.toArray.size ([]:List Value).toArray.size)).all (fun _=>true) && its.toArray.size == ([]:List Value).toArray.size))=!xs.isEmpty:=by
  cases xs with
  | nil =>
   cases r1
   rfl
  | cons a xs =>
   cases its with
   | nil=>simp at m1
   | cons=>simp
 rw [e] at key
 exact key X.prog X.w _ _ ⟨.bl _,H,I,rfl,q⟩
end L2
namespace L2
open PySem PySem.Spec PyProof.Rows
theorem zT {X:Cx} {scope:Scope} {N:List Str} {cl:List (Str × Addr)} {C:Addr} {s:Shared} {H:Hp} {ex:List Addr} {pn:List (Addr × Obj)} {E:Value→Shared→Prop} {ns:List (Str × NameKind)} (h:∀ y∈ns,y.2=.free→scope.names.lookup y.1=some .free) :
  ∀ y∈ns,y.2=.free→(cJ X scope N cl C s H ex pn E).env.scope.names.lookup y.1=some .cell∨(cJ X scope N cl C s H ex pn E).env.scope.names.lookup y.1=some .free:=fun y hy hf=>gH (h y hy hf)
end L2
namespace L2
open PySem PySem.Spec PyProof.Rows
theorem Dl {α β:Type} {f:α→Bool} {g:β→Bool}:∀ {xs:List α} {ys:List β},xs.length=ys.length→(∀ (i:Nat) x y,xs[i]?=some x→ys[i]?=some y→f x=g y)→xs.any f=ys.any g
 | [],[],_,_=>rfl
 | x :: xs,y :: ys,hl,h=>by
  rw [List.any_cons,List.any_cons,h 0 x y rfl rfl,Dl (by simpa using hl) fun i a b h1 h2=>h (i+1) a b (by simpa using h1) (by simpa using h2)]
 | [],_ :: _,hl,_=>by simp at hl
 | _ :: _,[],hl,_=>by simp at hl
end L2
namespace L2
open PySem PySem.Spec PyProof.Rows
def ExcAt (cls:Value) (T e:Addr) (h:Heap):Prop:=∃ oe vs a0,h.get? e=some oe∧oe.cls=cls∧oe.data=.fields vs∧vs[0]?=some a0∧vs[1]?=some (.ref T)
def Kv (T:Addr) (h:Heap):Prop:=∃ oT ts,h.get? T=some oT∧oT.data=.fields ts∧ts[3]?=some .none
def JF (cls:Value) (T e:Addr):HO:=.ext (ExcAt cls T e)
def TrO (T:Addr):HO:=.ext (Kv T)
theorem Kc {P:Program} {w:World} {H:Hp} {h:Heap} {cls:Value} {T e:Addr} (x:ExcAt cls T e h):cL P w H h e (JF cls T e):=by
 refine ⟨x,?_,fun h1 h2 p k=>?_⟩
 ·obtain ⟨oe,_,_,he,_⟩:=x
  exact ⟨oe,he⟩
 ·obtain ⟨oe,vs,a0,he,r⟩:=p
  exact ⟨oe,vs,a0,k oe he,r⟩
theorem Ly {P:Program} {w:World} {H:Hp} {h:Heap} {T:Addr} (x:Kv T h):cL P w H h T (TrO T):=by
 refine ⟨x,?_,fun h1 h2 p k=>?_⟩
 ·obtain ⟨oe,_,he,_⟩:=x
  exact ⟨oe,he⟩
 ·obtain ⟨oe,vs,he,r⟩:=p
  exact ⟨oe,vs,k oe he,r⟩
def CX1 (P:Program) (w:World):CXT:=fun outer H s E e s'=>∃ (ea T:Addr) (cls:Value) (H':Hp),e=.ref ea∧T≠ea∧s'.os=s.os∧AllBare s'.gens∧Un (frs outer) [] H H' s.heap s'.heap∧HOk P w H' s'.heap ∧
 H' ea=some (JF cls T ea)∧H' T=some (TrO T)∧E cls (some ea) H'
section
variable {M:Model} {A:Around} {E:Value→Shared→Prop} {s:Shared} {base:Heap} {env:Env} {outer:List Env} {L e:Addr}
structure Left (fs:List Addr) (e:Addr) (cls:Value) (T:Addr) (h h':Heap):Prop where
 keep:∀ b o,h.get? b=some o→b ∉ fs→b≠e→h'.get? b=some o
 slot:∀ b o,h.get? b=some o→b∈fs→∃ sl,h'.get? b=some { o with slots:=sl }
 new:h.get? T=none
 ne:T≠e
 exc:ExcAt cls T e h'
 tr:Kv T h'
end
theorem cL.has {P:Program} {w:World} {H:Hp} {h:Heap} {a:Addr} {o:HO} (x:cL P w H h a o):∃ u,h.get? a=some u:=by
 cases o with
 | lst xs=>obtain ⟨_,_,_,_,e⟩:=x; exact ⟨_,e⟩
 | tup xs=>obtain ⟨_,_,_,ob,e,_⟩:=x; exact ⟨_,e⟩
 | dK kvs=>obtain ⟨_,_,_,_,ob,_,_,e,_⟩:=x; exact ⟨_,e⟩
 | dT kvs=>obtain ⟨_,_,_,_,ob,_,_,e,_⟩:=x; exact ⟨_,e⟩
 | set S n=>obtain ⟨ob,_,_,_,e,_⟩:=x; exact ⟨_,e⟩
 | ins C dx fs=>obtain ⟨_,_,_,e,_⟩:=x; exact ⟨_,e⟩
 | own y=>exact x
 | xd fs=>obtain ⟨_,⟨ob,_,_,e,_⟩,_⟩:=x; exact ⟨_,e⟩
 | rng lo hi=>obtain ⟨_,_,_,e⟩:=x; exact ⟨_,e⟩
 | frz ob u=>exact ⟨_,x.1⟩
 | tbl ps=>exact ⟨_,x⟩
 | met f y=>exact ⟨_,x⟩
 | ext φ=>exact x.2.1
abbrev xH (H:Hp) (T e:Addr) (cls:Value):Hp:=upd (upd H T (TrO T)) e (JF cls T e)
section
variable {P:Program} {w:World} {fs:List Addr} {e T T0:Addr} {cls:Value} {H:Hp} {h0 h1 h':Heap}
end
section
variable {X:Cx} {pins:List (Addr × Obj)} {σ:St} {H H':Hp} {s:Shared} {h':Heap}
end
section
variable {P:Program} {w:World} {K:PySem.W.Frag} {mg:Str→Option Value} {base:Heap} {N:List Str} {qual:Str} {scope:Scope} {f:Addr} {cd:Value} {A:Around} {outer:List Env} {s0:Shared} {H0:Hp} {E:XK}
 {pins:List (Addr × Obj)} {σ:St} {H:Hp} {s:Shared}
end
end L2
namespace L2
open PySem PySem.Spec PyProof.Rows
abbrev TJ:=St→Hp→Str→VK→Prop
section
variable {X:Cx} {e e2:Expr} {es:List Expr} {te te2:TE} {tj:TJ} {pos:Pos}
end
end L2
namespace L2
open PySem PySem.Spec PyProof.Rows
structure Mg (P:Program) (w:World) (K:PySem.W.Frag) (mg:Str→Option Value) (base:Heap) (x:Str) (k:Nat) (ps:List Str) (sp:Sp):Prop where
 ex:∃ (f:Addr) (fd:FuncData),n8 P w K mg base (CX1 P w) k f fd ps sp∧Binds K fd ps []∧PySem.W.keepIn K (.ref f)=true∧mg x=some (.ref f)
section
variable {P:Program} {w:World} {K:PySem.W.Frag} {mg:Str→Option Value} {base:Heap} {x:Str} {ps:List Str} {sp:Sp}
end
def GQ (CX:CXT) (X:Cx) (E:St→XK):Prop:=∀ (pins:List (Addr × Obj)) (σ:St) (H:Hp) (s:Shared) (e:Value) (s':Shared),Inv X pins σ H s→CX X.stack H s (E σ) e s'→X.xe e s'
theorem Passes.s {CX:CXT} {X:Cx} {E:XK} (h:Passes CX X E):GQ CX X fun _=>E:=h
end L2
namespace L2
open PySem PySem.Spec PyProof.Rows
abbrev XR:=Value→Addr→St→Hp→Prop
section
variable {X:Cx} {pins more:List (Addr × Obj)} {σ:St} {H:Hp} {s:Shared} {R:XR}
end
end L2
namespace L2
open PySem PySem.Spec PyProof.Rows
section
variable {X:Cx} {pins:List (Addr × Obj)} {σ:St} {H:Hp} {s:Shared} {e:Addr}
end
structure Under (K:PySem.W.Frag) (D:Addr) (cls:Value):Prop where
 ex:∃ C,cls=.ref C∧PySem.W.subIn K (.ref C) (.ref D)=some true
end L2
namespace L2
open PySem PySem.Spec PyProof.Rows
end L2
namespace L2
open PySem PySem.Spec PySem.Calls PyProof.Rows PySem.W Builtin.Getset_descriptor
section
variable {prog:Program} {w:World} {A:Around} {E:Value→Shared→Prop} {K:Frag} {x C D:Addr} {ox:Obj} {h:Heap} {g:Array GenState} {d:Drawn} {t:Nat} {os:OsState}
structure Lz (h:Heap) (x:Addr) (ox:Obj) (D:Addr):Prop where
 at_:h.get? x=some ox
 cls:ox.cls=.ref D
theorem Lz.type {M:Model} (I:Lz h x ox D):Looks M h (typeOf (.ref x)) (.ref D):=I.cls ▸ (Looks.ld I.at_).andThen .now
structure Oa (K:Frag) (D:Addr):Prop where
 ga:findIn K (.ref D) "__getattribute__" = some (some (.builtin "BaseException.__getattribute__"))
 no:findIn K (.ref D) "__getattr__" = some none
 cl:findIn K (.ref D) "__class__" = some (some (.builtin "object.__class__"))
 bs:subIn K (.ref D) (.type "BaseException")=some true
 ob:mroIn K D (.type "object")=some true
 is:isClsIn K D=true
end
end L2
namespace L2
open PySem PySem.Spec PyProof.Rows
def NZ (E:XK):XK:=fun cls o H'=>∀ e,o=some e→∀ T',H' T'=none→E cls o (xH H' T' e cls)
def LQ (C:Addr) (H:Hp) (E:XK):Prop:=∀ (e T:Addr) (H':Hp),Same H H'→H e=none→H' e=some (JF (.ref C) T e)→E (.ref C) (some e) H'
theorem K3 {H H1:Hp} {T e:Addr} {cls:Value} (s:Same H H1) (he:H e=none) (hT:H1 T=none):Same H (xH H1 T e cls):=fun b o h=>by
 have hbe:b≠e:=fun z=>by subst z; rw [he] at h; cases h
 have hbT:b≠T:=fun z=>by subst z; rw [s _ _ h] at hT; cases hT
 show upd (upd H1 T (TrO T)) e (JF cls T e) b=some o
 rw [aM hbe,aM hbT]; exact s b o h
section
variable {C:Addr} {H H1:Hp} {E:XK}
end
structure Fn1 (P:Program) (w:World) (K:PySem.W.Frag) (mg:Str→Option Value) (base:Heap) (f:Addr) (k:Nat) (ps:List Str) (sp:Sp):Prop where
 ex:∃ (fd:FuncData),n8 P w K mg base (CX1 P w) k f fd ps sp∧Binds K fd ps []∧PySem.W.keepIn K (.ref f)=true
theorem Mg.fn {P:Program} {w:World} {K:PySem.W.Frag} {mg:Str→Option Value} {base:Heap} {x:Str} {k:Nat} {ps:List Str} {sp:Sp} (C:Mg P w K mg base x k ps sp):∃ f,mg x=some (.ref f)∧Fn1 P w K mg base f k ps sp:=by
 obtain ⟨f,fd,F,b,kp,m⟩:=C.ex
 exact ⟨f,m,fd,F,b,kp⟩
end L2
namespace L2
open PySem PySem.Spec PyProof.Rows
def Mz (c:Addr) (q:Str):HO:=.ext fun h=>h.CodeRec (.ref c) q
def del (H:Hp) (c:Addr):Hp:=fun b=>if b=c then none else H b
section
variable {P:Program} {w:World} {H H':Hp} {h h':Heap} {c:Addr} {o:Obj} {fs:List Addr}
variable {outer:List Env} {s s':Shared} {Q:VK} {u:Value} {E:XK} {e:Value}
end
section
variable {P:Program} {w:World} {K:PySem.W.Frag} {mg:Str→Option Value} {base:Heap} {N:List Str} {qual:Str} {scope:Scope} {f:Addr} {cd:Value} {cl:List (Str × Addr)} {A:Around} {outer:List Env} {s0:Shared} {H0:Hp} {E:XK}
end
structure NK (mg:Str→Option Value) (base:Heap) (c P:Addr):Prop where
 hd:PySem.W.CodeHd base c P
 gP:mainGlobals≠P
 blt:base.BuiltinsAt mg P
def Ob (P:Addr) (pos:Pos) (qual:Str) (H:Hp):Prop:=∃ ps,H P=some (.tbl ps)∧(ps = #[]∨∃ c',ps = #[rawInt pos.line,rawInt pos.col,.ref c']∧H c'=some (Mz c' qual))
end L2
namespace L2
open PySem PySem.Spec PyProof.Rows
structure JB (k:Nat) (A:Around):Prop where
 dp:A.depth+3 * k+5 < recursionLimit
 un:A.units+16 * k+200 < cLine
theorem j7.q {k:Nat} {A:Around} (r:j7 k A) (e:Option Value):JB k (A.mark e):=⟨r.dp,r.un⟩
structure N8 (P:Program) (w:World) (K:PySem.W.Frag) (mg:Str→Option Value) (base:Heap) (x:Str) (k:Nat) (ps:List Str) (sp:Sp):Prop where
 ex:∃ (f:Addr) (fd:FuncData),((∀ vs H Q E,sp vs H Q E→vs.length=ps.length)∧∀ (A:Around) (outer:List Env) (s:Shared) (H:Hp) (args:Args) (us:List Value) (vs:List V) (Q:VK),JB k A→Jh P w K mg base A outer s H→BindsTo s fd args (ps.zip us)→Vals vs us→sp vs H Q E0 →
  codeAny (model P w) A (.call (.ref f) args) (CR CX0 outer P w H s Q E0) s)∧Binds K fd ps []∧PySem.W.keepIn K (.ref f)=true∧mg x=some (.ref f)
end L2
namespace L2
open PySem PySem.Spec PyProof.Rows
open AutoSeq1 (wpAny_loadPart')
section
variable {prog:Program} {w:World} {A:Around} {E:Value→Shared→Prop} {s:Shared}
theorem nY {Q:List Value→Shared→Prop} {r:Addr} {a b c:Int} {t u v:Tok} {n:Nat} (hh:A.handled=none) (hr:IsRange s.heap r a b c t u v) (hsmall:Builtin.Range.small a b c=true)
  (hn:Builtin.Range.rangeSize a b c=n) (hlen:n≤2 ^ 24)
  (hQ:∀ h' tk acc,(∀ b o,s.heap.get? b=some o→h'.get? b=some o)→ItemsOf (fun i v=>∃ t,v=.int (a+i * c) t) acc n→Q acc.toList { s with heap:=h',toks:=tk }) :
  wpAny (model prog w) A (collect (.ref r)) Q E s:=by
 unfold collect
 refine wpAny_bind (wpAny_runValue (codeAny_builtin F.entry_proto_collect ?_))
 rw [Around.under_plainId F.plain_proto_collect _]
 show wpAny _ A.in1 (newList [] >>= fun l=>again (.builtin "list.__iadd__" ⟨[l,.ref r],[]⟩)) _ _ s
 refine wpAny_bind (wpAny_newObj_type ?_)
 refine wpAny_pure ⟨plainId_quiet F.plain_list_iadd _,codeAny_builtin F.entry_list_iadd ?_⟩
 rw [Around.under_plainId F.plain_list_iadd _]
 show wpAny _ A.in1 (Builtin.List.listExtendWith (.ref s.heap.objs.size) (.ref r) (.ref s.heap.objs.size)) _ _ _
 have hS:(s.heap.push { cls:=.type "list",data:=.seq ([]:List Value).toArray }).get? s.heap.objs.size=some { cls:=.type "list",data:=.seq #[] 0 }:=Heap.get?_push_size _ rfl
 have fin':∀ (h':Heap) (tk:Nat) (acc:Array Value) (c':Nat),(∀ b o,b≠s.heap.objs.size→(s.heap.push { cls:=.type "list",data:=.seq ([]:List Value).toArray }).get? b=some o→h'.get? b=some o) →
   h'.get? s.heap.objs.size=some { cls:=.type "list",dict:=none,data:=.seq acc c',slots:=#[] }→ItemsOf (fun i v=>∃ t,v=.int (a+i * c) t) acc n →
   wpAny (model prog w) A (match Value.ref s.heap.objs.size with
   | Value.ref a=>do
    match (← load a).data with
     | Data.seq xs _=>pure xs.toList
     | _=>unsupported "internal:collect"
   | _=>unsupported "internal:collect") Q E { s with heap:=h',toks:=tk }:=by
  intro h' tk acc c' hk hS' hacc
  show wpAny _ A (load s.heap.objs.size >>= _) _ _ _
  refine wpAny_bind (wpAny_load hS' ?_)
  refine wpAny_pure ?_
  exact hQ h' tk acc (fun b o e=>hk b o (Nat.ne_of_lt (Heap.lt_size e)) (Heap.get?_push_of_some _ e)) hacc
 refine wpAny_mono (wpAny_extend_range (A:=A) (R:=fun rr s'=>rr=.ok (.ret (.ref s.heap.objs.size))∧∃ (h':Heap) (tk:Nat) (acc:Array Value) (c':Nat),s'={ s with heap:=h',toks:=tk }∧(∀ b o,b≠s.heap.objs.size→(s.heap.push { cls:=.type "list",data:=.seq ([]:List Value).toArray }).get? b=some o→h'.get? b=some o) ∧
   h'.get? s.heap.objs.size=some { cls:=.type "list",dict:=none,data:=.seq acc c',slots:=#[] }∧ItemsOf (fun i v=>∃ t,v=.int (a+i * c) t) acc n)
  (s:={ s with heap:=s.heap.push { cls:=.type "list",data:=.seq ([]:List Value).toArray } }) hh (Heap.get?_push_of_some _ hr) hsmall hn hlen _ _ 0 hS (fun h' tk acc c' h1 h2 h3=>⟨rfl,h',tk,acc,c',rfl,h1,h2,h3⟩)) (fun fin s' h=>?_) (fun e s' h=>?_)
 ·cases fin with
  | done f =>
   obtain ⟨e,h',tk,acc,c',rfl,h1,h2,h3⟩:=h
   cases e
   exact fin' h' tk acc c' h1 h2 h3
  | again c'=>exact ⟨h.1,codeAny_mono h.2 fun r s'' hr=>by obtain ⟨rfl,h',tk,acc,c',rfl,h1,h2,h3⟩:=hr; exact fin' h' tk acc c' h1 h2 h3⟩
 ·exact absurd h.1 (by simp)
end
theorem gM (r:Addr) (a b c:Int) (t u v:Tok) (n:Nat) (hsmall:Builtin.Range.small a b c=true) (hn:Builtin.Range.rangeSize a b c=n) (hlen:n≤1000000) :
  Meets (Builtin.«tuple.__new__» ⟨[.type "tuple",.ref r],[]⟩)
   (fun A R s=>A.handled=none∧IsRange s.heap r a b c t u v∧∀ (h':Heap) (tk:Nat) (acc:Array Value),(∀ b o,s.heap.get? b=some o→h'.get? b=some o)→ItemsOf (fun i v=>∃ t,v=.int (a+i * c) t) acc n →
    R (.ok (.ret (.ref h'.objs.size))) { s with heap:=h'.push { cls:=.type "tuple",data:=.seq acc },toks:=tk }) :=
 .of_wp fun prog w A R s h=>by
  obtain ⟨hh,hr,h⟩:=h
  have hsub:=sub_tuple_self
  have hinit:=init_tuple_lookup
  have hmh:=madeHere_tuple
  have hT:s.TypeIs (.ref r) "range":=⟨_,hr,rfl⟩
  have hh1:A.in1.handled=none:=hh
  have hl24:n≤2 ^ 24:=by omega
  wp_walk using wpAny_typeOf hT,nY (t:=t) (u:=u) (v:=v) hh1 hr hsmall hn hl24
  intro h' tk acc hk hacc
  show wpAny _ _ (Builtin.Tuple.tupleExact acc.toList.toArray >>= fun v=>ret v) _ _ _
  unfold Builtin.Tuple.tupleExact
  refine wpAny_bind (wpAny_newObj_type ?_ (show acc.toList.toArray.size≤sizeLine by simp only [Array.toArray_toList]; rw [hacc.1]; exact Nat.le_trans hlen cg))
  refine wpAny_pure ⟨_,rfl,?_⟩
  have e:acc.toList.toArray=acc:=by simp
  rw [e]
  exact h h' tk acc hk hacc
section
variable {prog:Program} {w:World} {A:Around} {E:Value→Shared→Prop} {s:Shared}
theorem j4 {Q:Value→Shared→Prop} {r:Addr} {a b c:Int} {t u v:Tok} {n:Nat} (hh:A.handled=none) (hr:IsRange s.heap r a b c t u v) (hsmall:Builtin.Range.small a b c=true)
  (hn:Builtin.Range.rangeSize a b c=n) (hlen:n≤1000000)
  (h:∀ (h':Heap) (tk:Nat) (acc:Array Value),(∀ b o,s.heap.get? b=some o→h'.get? b=some o)→ItemsOf (fun i v=>∃ t,v=.int (a+i * c) t) acc n→Q (.ref h'.objs.size) { s with heap:=h'.push { cls:=.type "tuple",data:=.seq acc },toks:=tk }) :
  wpAny (model prog w) A (call (.type "tuple") [.ref r]) Q E s:=by
 exact callType_new F.called_tuple (by decide) (F.typeCall_tuple_1 _) (F.newCall_tuple_1 _) (fun obj=>F.args_object_init_2 obj _) F.entry_tuple_new
  (gM r a b c t u v n hsmall hn hlen) ⟨hh,hr,fun h' tk acc hk hacc=>⟨⟨_,Heap.get?_push_size _ rfl,rfl⟩,h h' tk acc hk hacc⟩⟩
end
def Ao (i:Int) (n:Nat):List V:=(List.range n).map fun k=>V.int (i+(k:Nat))
theorem iR (i:Int) (n:Nat):(Ao i n).length=n:=by unfold Ao; simp
theorem xg:∀ {xs:List V} {us:List Value},xs.length=us.length→(∀ (i:Nat) x u,xs[i]?=some x→us[i]?=some u→RelV x u)→Vals xs us
 | [],[],_,_=>.nil
 | x :: xs,u :: us,h,k=>.cons (k 0 x u rfl rfl) (xg (by simpa using h) fun i a b p q=>k (i+1) a b (by simpa using p) (by simpa using q))
 | [],_ :: _,h,_=>by simp at h
 | _ :: _,[],h,_=>by simp at h
theorem Bg {i:Int} {n:Nat} {acc:Array Value} (h:ItemsOf (fun k v=>∃ t,v=.int (i+k * 1) t) acc n):Vals (Ao i n) acc.toList:=by
 refine xg (by rw [iR,Array.length_toList,h.1]) fun j x u hx hu=>?_
 have hj:j < n:=by
  have:=(List.getElem?_eq_some_iff.mp hx).1
  rwa [iR] at this
 obtain ⟨t,rfl⟩:=h.2 j u (by simpa using hu)
 have e:x=V.int (i+(j:Nat)):=by
  unfold Ao at hx
  rw [List.getElem?_map,List.getElem?_range hj] at hx
  exact (Option.some.inj hx).symm
 subst e
 rw [Int.mul_one]
 exact ⟨t,rfl⟩
section
variable {X:Cx}
theorem wO {pins:List (Addr × Obj)} {σ:St} {H:Hp} {s:Shared} {Q:VK} {lo hi:Int} {t u v:Tok} {tk:Nat} (hc:X.calm=true) (I:Inv X pins σ H s) (h1:-(2 ^ 62)≤lo) (h2:lo < 2 ^ 62) (h3:-(2 ^ 62)≤hi) (h4:hi < 2 ^ 62) (h5:(hi - lo).toNat≤1000000)
  (q:∀ p,H p=none→Q (.ref p) (upd H p (.tup (Ao lo (hi - lo).toNat)))):wpAny (model X.prog X.w) X.A (call (.type "tuple") [.ref s.heap.objs.size]) (EP X pins σ Q) X.xe { s with heap:=s.heap.push { cls:=.type "range",data:=.fields #[.int lo t,.int hi u,.int 1 v] },toks:=tk }:=by
 refine j4 (n:=(hi - lo).toNat) (I.ok.hd hc) (IsRange.new ..) (small_one h1 h2 h3 h4) (by rw [rangeSize_one]; split <;> omega) h5 fun h' tk' acc hk hacc=>?_
 have I1:Inv X pins σ H { s with heap:=h',toks:=tk' }:=I.kept fun b o e=>hk b o (Heap.get?_push_of_some _ e)
 have vv:=Bg hacc
 have I2:Inv X pins σ (upd H h'.objs.size (.tup (Ao lo (hi - lo).toNat))) { s with heap:=h'.push { cls:=.type "tuple",data:=.seq acc },toks:=tk' } :=
  I1.laid (t':=tk') (fun b o e=>Heap.get?_push_of_some _ e) (Nat.le_refl _) (show cL X.prog X.w _ _ _ (.tup _) from ⟨by rw [iR]; exact Nat.le_trans h5 cg,acc.toList,vv,by have:=IsTup.new h' acc; simpa using this⟩)
 exact ⟨.ref h'.objs.size,_,I2,rfl,q _ (I1.hok.fresh (Nat.le_refl _))⟩
def J8 (ta:TA):TE:=fun σ H Q=>ta σ H fun vs H1=>∃ i j:Int,vs=[.int i,.int j]∧(-(2 ^ 62)≤i∧i < 2 ^ 62∧-(2 ^ 62)≤j∧j < 2 ^ 62)∧(j - i).toNat≤1000000∧∀ p,H1 p=none→Q (.ref p) (upd H1 p (.tup (Ao i (j - i).toNat)))
theorem nT {a b:Expr} {ta:TA} {p p2 pos pos2:Pos} (hc:X.calm=true) (hgT:Gl X "tuple") (hmT:X.mg "tuple" = none) (hg:Gl X "range") (hm:X.mg "range" = none) (ha:PA X [a,b] ta)
  (hs0:starEach [.Call (.Name "range" p2) [a,b] [] pos2] X.env=(false,eval (.Call (.Name "range" p2) [a,b] [] pos2) X.env) :: starEach [] X.env:=by rfl)
  (hs:starEach [a,b] X.env=[(false,eval a X.env),(false,eval b X.env)]:=by rfl) (hs2:starEach [b] X.env=[(false,eval b X.env)]:=by rfl) :
  PE X (.Call (.Name "tuple" p) [.Call (.Name "range" p2) [a,b] [] pos2] [] pos) (J8 ta):=by
 intro pins s σ H Q I h
 refine wpAny_Call_Name_kw (jT I hgT hmT boot_tuple ?_ (by decide) (by decide))
 refine PyProof.Rows.callWith_type1 ?_ hs0 rfl
 rw [hs0]
 show wpAny _ _ (spliced ((false,eval _ X.env) :: backTo pos (starEach [] X.env))) _ _ s
 refine Calls.spliced_cons ?_
 refine Call_ (jT I hg hm boot_range (PyProof.Rows.callWith_type1 (thn (ha pos2 pins s σ H _ I h) fun us s1 ⟨vs,H1,I1,r1,q1⟩=>?_) (by rw [hs,hs2]) (by rw [hs2]; rfl)))
 obtain ⟨i,j,e,⟨q1,q2,q3,q4⟩,q5,q⟩:=q1
 subst e
 cases r1 with
 | cons r rr =>
  cases rr with
  | cons r' rr =>
   cases rr
   obtain ⟨t,rfl⟩:=r
   obtain ⟨t',rfl⟩:=r'
   refine call_range_2 ?_
   refine Calls.spliced_nil ?_
   exact wO hc I1 q1 q2 q3 q4 q5 q
end
def Ky:R2:=fun x y H Q=>∃ (ds es:List D) (n:Nat),Den H x (.tup ds)∧Den H y (.tup es)∧iT (n+1) (.tup ds)∧iT (n+1) (.tup es)∧n≤50∧qH ds es∧Q (.bl (!eqD (.tup ds) (.tup es))) H
theorem Gn {X:Cx} (hu:X.A.units+64 < cLine):OpR X (compareOp .NotEq) Ky:=by
 intro pins s σ H x y v u Q I rx ry h
 obtain ⟨ds,es,n,hx,hy,hs1,hs2,hn,hm,q⟩:=h
 have ih:=JX I (s':=s) (fun b o z=>z) n
 obtain ⟨a,vs,rfl,ha,hda⟩:=bO hx
 obtain ⟨b,us,rfl,hb,hdb⟩:=bO hy
 cases rx
 cases ry
 obtain ⟨its,r1,p1,_⟩:=I.tuple (SqT.of (K:=X.K) ha)
 obtain ⟨its2,r2,p2,_⟩:=I.tuple (SqT.of (K:=X.K) hb)
 have l1:=hda.len
 have l2:=hdb.len
 have m1:=r1.length
 have m2:=r2.length
 have e0:=allR_eq ds es
 rw [show ds.length=its.toArray.size by simp; omega,show es.length=its2.toArray.size by simp; omega] at e0
 have key:=SeqAt.RcNeAt.tuples (A:=X.A) (s:=s) (e:=fun j=>eqD (ds.getD j .non) (es.getD j .non)) p1 p2 (by omega) fun j h1 h2=>?_
 ·rw [e0] at key
  exact key X.prog X.w _ _ ⟨.bl _,H,I,rfl,q⟩
 ·have hj1:j < vs.length:=by simpa [m1] using h1
  have hj2:j < us.length:=by simpa [m2] using h2
  obtain ⟨d1,g1,b1⟩:=hda.at_ (List.getElem?_eq_getElem hj1)
  obtain ⟨d2,g2,b2⟩:=hdb.at_ (List.getElem?_eq_getElem hj2)
  obtain ⟨w1,hw1,rw1⟩:=r1.get (List.getElem?_eq_getElem hj1)
  obtain ⟨w2,hw2,rw2⟩:=r2.get (List.getElem?_eq_getElem hj2)
  have q1:its.toArray[j]=w1:=by
   have:=(List.getElem?_eq_some_iff.mp hw1).2
   simpa using this
  have q2:its2.toArray[j]=w2:=by
   have:=(List.getElem?_eq_some_iff.mp hw2).2
   simpa using this
  rw [q1,q2]
  rw [List.getD_eq_getElem?_getD,List.getD_eq_getElem?_getD,g1,g2]
  have s1:=(hs1.2 ds rfl).2 d1 (List.mem_of_getElem? g1)
  have s2:=(hs2.2 es rfl).2 d2 (List.mem_of_getElem? g2)
  exact (ih d1 d2 X.A.in1 _ _ _ _ s1 s2 (hm.at_ g1 g2) b1 b2 rw1 rw2 (by first | (simp only [Around.in1]; omega) | omega)).1
def J9 (K:PySem.W.Frag):List V→Hp→VK→Prop:=fun xs H Q=>∃ (l:Addr) (ns:List Int),xs=[.ref l]∧SqL K H l (ns.map V.int)∧Q (.int ns.sum) H
theorem cV {X:Cx} (hc:X.calm=true):fK X (.builtin "sum") (J9 X.K):=by
 intro pins s σ H xs us Q I r h
 obtain ⟨l,ns,rfl,hq,q⟩:=h
 obtain ⟨u,rfl,r1⟩:=vals1 r
 cases r1
 obtain ⟨its,rv,pl,hz⟩:=I.list hq
 obtain ⟨xs,e1,e2⟩:=uQ rv
 refine sum_intListG (I.ok.hd hc) (xs:=xs) (by rw [← e1]; exact pl.isList) fun h' tk t' hk=>?_
 rw [preSum_eq,List.take_of_length_le (by simp),e2]
 exact ⟨.int _,H,I.kept (t':=tk) hk,⟨_,rfl⟩,q⟩
end L2
namespace ZTL
open PySem
open ZT (Apart tG sE)
open Sem (wp)
section
variable {prog:Program} {w:World} {A:Around} {E:Value→Shared→Prop} {s:Shared}
end
abbrev zh1 (h:Heap) (t1:Addr):Heap:=h.push { cls:=.type "tuple_iterator",data:=.fields #[.ref t1,.int 0 0] }
end ZTL
namespace L2
open PySem PySem.Spec PyProof.Rows
end L2
namespace L2
open PySem PySem.Spec PyProof.Rows
end L2
namespace SA
open PySem PySem.Spec PyProof.Rows
theorem nA:entryFor table "set.__and__" = some Builtin.«frozenset.__and__»:=entryFor_alias (id':="frozenset.__and__") (by kernel_rfl) rfl (by decide +kernel) (by kernel_rfl)
theorem vB {α:Type} {l:List α} {i:Nat} (h:i < l.length):(l[i] :: l.eraseIdx i).Perm l:=by
 have e:l=l.take i++l[i] :: l.drop (i+1):=by
  rw [List.getElem_cons_drop,List.take_append_drop]
 rw [List.eraseIdx_eq_take_drop_succ]
 exact (List.perm_middle.symm).trans (by rw [← e])
theorem z9 {α:Type} (next:Nat→Nat):∀ (fuel k:Nat) (left:List α) (out:Array α),left.length≤fuel→(pickOrder.go next fuel k left out).toList.Perm (out.toList++left)
 | 0,k,left,out,h=>by
  have e:left=[]:=List.length_eq_zero_iff.mp (by omega)
  subst e
  rw [pickOrder.go,List.append_nil]
 | fuel+1,k,left,out,h=>by
  rw [pickOrder.go]
  cases hx:left[next k % left.length]? with
  | none =>
   have e:left=[]:=by
    cases left with
    | nil=>rfl
    | cons a r =>
     have:=List.getElem?_eq_none_iff.mp hx
     have:=Nat.mod_lt (next k) (show 0 < (a :: r).length by simp)
     omega
   subst e
   rw [List.append_nil]
  | some x =>
   obtain ⟨hi,ex⟩:=List.getElem?_eq_some_iff.mp hx
   refine (z9 next fuel (k+1) (left.eraseIdx (next k % left.length)) (out.push x) ?_).trans ?_
   ·rw [List.length_eraseIdx_of_lt hi]
    omega
   ·rw [Array.toList_push,List.append_assoc]
    refine List.Perm.append_left _ ?_
    rw [← ex]
    exact vB hi
theorem zj {α:Type} (next:Nat→Nat) (xs:Array α):(pickOrder next xs).toList.Perm xs.toList:=by
 have:=z9 next xs.size 0 xs.toList #[] (by simp)
 simpa [pickOrder] using this
section
variable {prog:Program} {w:World} {K:Type} [DecidableEq K] {knd:KeyKind prog w K} {A:Around} {E:Value→Shared→Prop} {s:Shared}
theorem Bh {a:Addr} {o:Obj} {es:Array (Int × Value)} {ep:Nat} {t:SetTable} {Q:Array (Int × Value)→Shared→Prop} (ho:s.heap.get? a=some o) (hd:o.data=.set es ep t) (hf:t.fits es.size=true)
  (hc:w.params.followText "set-order" = true∨(t.led=true∧t.plain=true)∨es.size≤1) (h:∀ arr:Array (Int × Value),arr.toList.Perm es.toList→Q arr s):wpAny (model prog w) A (setWalk a) Q E s:=by
 unfold setWalk
 refine wpAny_bind (wpAny_setState_of ho hd hf ?_)
 dsimp only
 unfold setsByText
 refine wpAny_bind (wpAny_bind (wpAny_askSetting (wpAny_pure ?_)))
 refine wpAny_ite_split (fun hb=>wpAny_bind (wpAny_askSetting (wpAny_pure (h _ (zj _ _))))) (fun hb=>?_)
 have hc':(t.led=true∧t.plain=true)∨es.size≤1:=hc.resolve_left hb
 have hdn:(!t.plain && decide (es.size > 1))=false:=by
  rcases hc' with h | h
  ·rw [h.2]; rfl
  ·rw [decide_eq_false (by omega),Bool.and_false]
 have hld:(!t.led && decide (es.size > 1))=false:=by
  rcases hc' with h | h
  ·rw [h.1]; rfl
  ·rw [decide_eq_false (by omega),Bool.and_false]
 refine wpAny_ite_split (fun hq=>absurd (show (!t.plain && decide (es.size > 1))=true from hq) (by rw [hdn]; decide)) fun _=>?_
 refine wpAny_bind ?_
 show wpAny _ _ (if (!t.led && decide (es.size > 1))=true then unsupported "set:maker-not-led" else pure ()) _ _ _
 exact wpAny_ite_split (fun hq=>absurd hq (by rw [hld]; decide)) fun _=>wpAny_pure (wpAny_pure (h es (List.Perm.refl _)))
theorem uW {Q:Bool→Shared→Prop} (l:List Addr) (hl:∀ a∈l,∃ o es ep t,s.heap.get? a=some o∧o.data=.set es ep t∧t.fits es.size=true∧∀ e∈es.toList,e.2.scannable=true) (h:Q true s):wpAny (model prog w) A (setsQuiet l) Q E s:=by
 unfold setsQuiet
 refine wpAny_bind (wpAny_forIn_list _ (fun rest b s'=>s'=s∧b=⟨none,()⟩∧∀ a∈rest,a∈l) _ ?_ ?_ l _ ⟨rfl,rfl,fun _ z=>z⟩)
 ·rintro a rest b s' ⟨rfl,rfl,hr⟩
  obtain ⟨o,es,ep,t,ho,hd,hf,hx⟩:=hl a (hr a List.mem_cons_self)
  refine wpAny_bind (wpAny_setEntries_of ho hd hf ?_)
  refine wpAny_bind (MeetsSeq2.wpAny_forIn_array _ (fun rest' b s''=>s''=s'∧b=((none:Option Bool),())∧∀ e∈rest',e∈es.toList) _ ?_ ?_ es _ ⟨rfl,rfl,fun _ z=>z⟩)
  ·rintro ⟨hh,x⟩ rest' b s'' ⟨rfl,rfl,hm⟩
   have hsc:=hx (hh,x) (hm _ List.mem_cons_self)
   cases x <;> first | exact absurd hsc (by decide) | exact wpAny_pure ⟨rfl,rfl,fun e he=>hm e (List.mem_cons_of_mem _ he)⟩ | (exfalso; exact absurd hsc (by intro z; cases z))
  ·rintro b s'' ⟨rfl,rfl,_⟩
   exact wpAny_pure ⟨rfl,rfl,fun a ha=>hr a (List.mem_cons_of_mem _ ha)⟩
 ·rintro b s' ⟨rfl,rfl,_⟩
  exact wpAny_pure h
theorem rH {a b r:Addr} {S T R:K→Bool} {n m c:Nat} {Q:Array (Int × Value)→Shared→Prop} (hab:a≠r) (hbr:b≠r) (hS:s.heap.SetOf knd a S n) (hT:s.heap.SetOf knd b T m) (hR:s.heap.SetOf knd r R c)
  (h:∀ (g:Heap) (arr:Array (Int × Value)),Heap.SameBut r s.heap g→g.SetOf knd r R c→ElemsOf knd arr.toList→arr.size=n→(∀ k,S k=true↔∃ e∈arr.toList,knd.is k e.2=true)→Q arr { s with heap:=g }) :
  wpAny (model prog w) A (setWalkUnseen a [b,r] (some r)) Q E s:=by
 obtain ⟨o,es,ep,t,ho,hex,hd,hel,hmem,hb,hf,hn⟩:=id hS
 obtain ⟨o2,es2,ep2,t2,ho2,hex2,hd2,hel2,hmem2,hb2,hf2,hn2⟩:=id hT
 obtain ⟨o3,es3,ep3,t3,ho3,hex3,hd3,hel3,hmem3,hb3,hf3,hn3⟩:=id hR
 have fin:∀ (g:Heap) (arr:Array (Int × Value)),Heap.SameBut r s.heap g→g.SetOf knd r R c→arr.toList.Perm es.toList→Q arr { s with heap:=g }:=fun g arr hg hgr hp =>
  h g arr hg hgr (hel.perm hp) (by rw [← hn,← Array.length_toList,hp.length_eq,Array.length_toList]) fun k=>(hmem k).trans ⟨fun ⟨e,he,q⟩=>⟨e,hp.mem_iff.mpr he,q⟩,fun ⟨e,he,q⟩=>⟨e,hp.mem_iff.mp he,q⟩⟩
 have fin0:∀ arr:Array (Int × Value),arr.toList.Perm es.toList→Q arr s:=fun arr hp=>fin s.heap arr (Heap.SameBut.refl r s.heap) hR hp
 unfold setWalkUnseen
 refine wpAny_bind (wpAny_setState_of ho hd hf ?_)
 dsimp only
 unfold setsByText
 refine wpAny_bind (wpAny_bind (wpAny_askSetting (wpAny_pure ?_)))
 refine wpAny_ite_split (fun hq=>?_) (fun hq=>?_)
 ·refine Bh ho hd hf ?_ fin0
  simp only [Bool.or_eq_true,Bool.and_eq_true,decide_eq_true_eq] at hq
  rcases hq with (q | q) | q
  ·exact .inl q
  ·exact .inr (.inl q)
  ·exact .inr (.inr q)
 ·refine wpAny_bind (uW [a,b,r] (fun x hx=>?_) ?_)
  ·simp only [List.mem_cons,List.not_mem_nil,or_false] at hx
   rcases hx with rfl | rfl | rfl
   ·exact ⟨o,es,ep,t,ho,hd,hf,fun e he=>(hel e he).2⟩
   ·exact ⟨o2,es2,ep2,t2,ho2,hd2,hf2,fun e he=>(hel2 e he).2⟩
   ·exact ⟨o3,es3,ep3,t3,ho3,hd3,hf3,fun e he=>(hel3 e he).2⟩
  refine wpAny_ite_split (fun z=>absurd z (by decide)) (fun _=>?_)
  refine wpAny_bind (wpAny_rule ?_)
  refine wpAny_bind (wpAny_setState_of ho3 hd3 hf3 ?_)
  dsimp only
  refine wpAny_ite_split (fun _=>?_) (fun _=>wpAny_pure (fin0 es (List.Perm.refl _)))
  refine wpAny_bind (wpAny_storeSet_of ho3 hd3 (wpAny_pure ?_) (fits_of_scanBound hb3))
  obtain ⟨_,hS2⟩:=SetOf_store (knd:=knd) (t':={ t3 with led:=t3.led && t.led,plain:=t3.plain && t.plain }) ho3 hex3 hd3 hel3 hmem3 hb3 (by cases t3; exact hf3)
  rw [hn3] at hS2
  exact fin _ es (Heap.SameBut.update ..) hS2 (List.Perm.refl _)
theorem pZ {a b r:Addr} {S T:K→Bool} {n m:Nat} {nm:String} {Q:Unit→Shared→Prop} (har:a≠r) (hbr:b≠r) (hS:s.heap.SetOf knd a S n) (hT:s.heap.SetOf knd b T m) (hR:s.heap.SetOf knd r (fun _=>false) 0) (hroom:n+1 < scanBound)
  (h:∀ (g:Heap) (L:List K),Heap.SameBut r s.heap g→L.Nodup→(∀ k,k∈L↔S k=true∧T k=true)→g.SetOf knd r (fun k=>S k && T k) L.length→Q () { s with heap:=g }) :
  wpAny (model prog w) A (do
   let was ← setEpoch a
   for (hh,x) in ← setWalkUnseen a [b,r] (some r) do
    holding [x] do
     if (← setFind b x hh).isSome then
      let _ ← setAddHashed r x hh
    Builtin.Frozenset.unchanged nm a was) Q E s:=by
 obtain ⟨o,es,ep,t,ho,hex,hd,hel,hmem,hb,hf,hn⟩:=id hS
 refine wpAny_bind (wpAny_setEpoch_of ho hd hf ?_)
 refine wpAny_bind (rH har hbr hS hT hR fun g arr hg hgr hela hsz hma=>?_)
 have keepB:∀ {g':Heap} {c:Addr} {U:K→Bool} {q:Nat},Heap.SameBut r s.heap g'→c≠r→s.heap.SetOf knd c U q→g'.SetOf knd c U q:=fun {g' c U q} hg' hc hU=>by
  obtain ⟨o',es',ep',t',ho',rest⟩:=hU
  exact ⟨o',es',ep',t',hg'.extBut _ _ hc ho',rest⟩
 have quiet:∀ {g':Heap} {Q':Unit→Shared→Prop},Heap.SameBut r s.heap g'→Q' () { s with heap:=g' }→wpAny (model prog w) A (Builtin.Frozenset.unchanged nm a ep) Q' E { s with heap:=g' }:=fun {g' Q'} hg' hq=>by
  unfold Builtin.Frozenset.unchanged
  refine wpAny_bind (wpAny_setEpoch_of (hg'.extBut _ _ har ho) hd hf ?_)
  exact wpAny_ite_split (fun z=>absurd z (by simp)) fun _=>wpAny_pure hq
 refine wpAny_bind (MeetsSeq2.wpAny_forIn_array _ (fun rest _ s'=>∃ (g':Heap) (L:List K) (pre:List (Int × Value)),s'={ s with heap:=g' }∧Heap.SameBut r s.heap g'∧arr.toList=pre++rest∧L.Nodup∧(∀ k,k∈L↔(∃ e∈pre,knd.is k e.2=true)∧T k=true)∧L.length≤pre.length ∧
   g'.SetOf knd r (fun k=>decide (k∈L)) L.length) _ ?_ ?_ arr _ ⟨g,[],[],rfl,hg,rfl,List.nodup_nil,fun k=>by simp,Nat.le_refl _,?_⟩)
 ·rintro ⟨hh,x⟩ rest b' s' ⟨g',L,pre,rfl,hg',hpre,hnd,hL,hlen,hgr'⟩
  have hmx:(hh,x)∈arr.toList:=by rw [hpre]; simp
  obtain ⟨⟨k,hk,ehh⟩,hsc⟩:=hela _ hmx
  have ehh':hh=knd.hash k:=ehh
  subst ehh'
  have hk':knd.is k x=true:=hk
  have hpl:pre.length < n:=by
   have:=congrArg List.length hpre
   rw [Array.length_toList,hsz,List.length_append,List.length_cons] at this
   omega
  have hpre':arr.toList=(pre++[(knd.hash k,x)])++rest:=by rw [hpre]; simp
  have hex':∀ j,(∃ e∈pre++[(knd.hash k,x)],knd.is j e.2=true)↔(∃ e∈pre,knd.is j e.2=true)∨j=k:=fun j=>by
   constructor
   ·rintro ⟨e,he,q⟩
    rcases List.mem_append.mp he with he | he
    ·exact .inl ⟨e,he,q⟩
    ·rw [List.mem_singleton] at he
     subst he
     exact .inr (knd.inj x j k q hk')
   ·rintro (⟨e,he,q⟩ | rfl)
    ·exact ⟨e,List.mem_append_left _ he,q⟩
    ·exact ⟨_,List.mem_append_right _ (List.mem_singleton.mpr rfl),hk'⟩
  refine wpAny_bind (wpAny_holding (wpAny_bind (wpAny_setFind_of hk' hsc (keepB hg' hbr hT) fun rr hrr=>?_)))
  refine wpAny_ite_split (fun hq=>?_) (fun hq=>?_)
  ·have hTk:T k=true:=by rw [← hrr]; exact hq
   refine wpAny_bind (wpAny_setAddHashed_of hk' hsc hgr' (by omega) fun g2 hsb hS2=>wpAny_pure (wpAny_bind (quiet (hg'.trans hsb) (wpAny_pure ?_))))
   by_cases hkL:k∈L
   ·refine ⟨g2,L,pre++[(knd.hash k,x)],rfl,hg'.trans hsb,hpre',hnd,fun j=>?_,by rw [List.length_append]; omega,?_⟩
    ·rw [hL j,hex' j]
     constructor
     ·rintro ⟨q1,q2⟩; exact ⟨.inl q1,q2⟩
     ·rintro ⟨q1 | rfl,q2⟩
      ·exact ⟨q1,q2⟩
      ·exact (hL _).mp hkL
    ·rw [if_pos (decide_eq_true hkL)] at hS2
     have e:(fun k'=>decide (k'∈L) || decide (k'=k))=fun k'=>decide (k'∈L):=funext fun j=>by
      by_cases hj:j=k
      ·subst hj; simp [hkL]
      ·simp [hj]
     rw [e] at hS2
     exact hS2
   ·refine ⟨g2,k :: L,pre++[(knd.hash k,x)],rfl,hg'.trans hsb,hpre',List.nodup_cons.mpr ⟨hkL,hnd⟩,fun j=>?_,by rw [List.length_append,List.length_cons,List.length_singleton]; omega,?_⟩
    ·rw [hex' j,List.mem_cons,hL j]
     constructor
     ·rintro (rfl | ⟨q1,q2⟩)
      ·exact ⟨.inr rfl,hTk⟩
      ·exact ⟨.inl q1,q2⟩
     ·rintro ⟨q1 | rfl,q2⟩
      ·exact .inr ⟨q1,q2⟩
      ·exact .inl rfl
    ·rw [if_neg (by simpa using hkL)] at hS2
     have e:(fun k'=>decide (k'∈L) || decide (k'=k))=fun k'=>decide (k'∈k :: L):=funext fun j=>by
      by_cases hj:j=k
      ·subst hj; simp
      ·simp [hj]
     rw [e] at hS2
     exact hS2
  ·refine wpAny_pure (wpAny_bind (quiet hg' (wpAny_pure ?_)))
   have hTk:T k=false:=by
    rw [← hrr]
    simpa using hq
   refine ⟨g',L,pre++[(knd.hash k,x)],rfl,hg',hpre',hnd,fun j=>?_,by rw [List.length_append]; omega,hgr'⟩
   rw [hL j,hex' j]
   constructor
   ·rintro ⟨q1,q2⟩; exact ⟨.inl q1,q2⟩
   ·rintro ⟨q1 | rfl,q2⟩
    ·exact ⟨q1,q2⟩
    ·rw [hTk] at q2; cases q2
 ·rintro b' s' ⟨g',L,pre,rfl,hg',hpre,hnd,hL,hlen,hgr'⟩
  rw [List.append_nil] at hpre
  have hk:∀ k,k∈L↔S k=true∧T k=true:=fun k=>by rw [hL k,hma k,hpre]
  refine wpAny_pure (h g' L hg' hnd hk ?_)
  have e:(fun k=>decide (k∈L))=fun k=>S k && T k:=funext fun k=>by
   rw [Bool.eq_iff_iff,decide_eq_true_eq,Bool.and_eq_true]
   exact hk k
  rw [← e]
  exact hgr'
 ·simpa using hgr
theorem zy {a:Addr} {S:K→Bool} {n:Nat} {Q:Bool→Shared→Prop} (hS:s.heap.SetOf knd a S n) (h:Q true s):wpAny (model prog w) A (Builtin.Frozenset.isAnySet (.ref a)) Q E s:=by
 obtain ⟨o,es,ep,t,ho,hex,_⟩:=hS
 unfold Builtin.Frozenset.isAnySet
 refine wpAny_bind (wpAny_isInstance (T:="set") (b:=true) ⟨o,ho,hex.1⟩ (by rw [isSubtype_type]; kernel_rfl) ?_)
 exact wpAny_pure h
theorem Aj {a b:Addr} {S T:K→Bool} {n m:Nat} {Q:Value→Shared→Prop} (hab:a≠b) (hS:s.heap.SetOf knd a S n) (hT:s.heap.SetOf knd b T m) (hn:n+1 < scanBound) (hm:m+1 < scanBound)
  (h:∀ (g:Heap) (L:List K),(∀ c o,s.heap.get? c=some o→g.get? c=some o)→L.Nodup→(∀ k,k∈L↔S k=true∧T k=true)→g.SetOf knd s.heap.objs.size (fun k=>S k && T k) L.length→Q (.ref s.heap.objs.size) { s with heap:=g }) :
  wpAny (model prog w) A (binaryOp .BitAnd (.ref a) (.ref b)) Q E s:=by
 obtain ⟨o,es,ep,t,ho,hex,hd,hel,hmem,hb,hf,en⟩:=id hS
 obtain ⟨o2,es2,ep2,t2,ho2,hex2,hd2,hel2,hmem2,hb2,hf2,en2⟩:=id hT
 refine wpAny_binaryOp_same (T:="set") (id:="set.__and__") ⟨o,ho,hex.1⟩ ⟨o2,ho2,hex2.1⟩ F.fills_set_and F.slot_set_and ?_
 refine wpAny_call_entry F.slot_set_and ⟨o,ho,hex.1⟩ nA ?_ (F.args_set_and_2 _ _)
 have nar:a≠s.heap.objs.size:=Nat.ne_of_lt (Heap.lt_size ho)
 have nbr:b≠s.heap.objs.size:=Nat.ne_of_lt (Heap.lt_size ho2)
 show wpAny _ _ (Builtin.Frozenset.slot1 "__and__" ⟨[.ref a,.ref b],[]⟩ >>= _) _ _ _
 refine wpAny_bind (wpAny_of_eq (a:=(Value.ref a,Value.ref b)) (by rfl) ?_)
 dsimp only
 refine wpAny_bind (wpAny_bind (zy hS ?_))
 show wpAny _ _ (Builtin.Frozenset.isAnySet (.ref b)) _ _ _
 refine zy hT ?_
 refine wpAny_ite_split (fun z=>absurd z (by decide)) (fun _=>?_)
 show wpAny _ _ (Builtin.Frozenset.addrOf (.ref a) >>= _) _ _ _
 refine wpAny_bind (wpAny_pure ?_)
 show wpAny _ _ (Builtin.Frozenset.intersection (toString "frozenset." ++ toString "__and__") a (.ref b) >>= _) _ _ _
 refine wpAny_bind ?_
 generalize (toString "frozenset." ++ toString "__and__")=nm
 unfold Builtin.Frozenset.intersection
 refine wpAny_ite_split (fun z=>absurd (by simpa using z) hab.symm) (fun _=>?_)
 refine wpAny_bind ?_
 unfold Builtin.Frozenset.baseOf
 refine wpAny_bind (wpAny_isInstance (T:="set") (b:=true) ⟨o,ho,hex.1⟩ (by rw [isSubtype_type]; kernel_rfl) (wpAny_pure ?_))
 dsimp only
 refine wpAny_bind (wpAny_newSet_of (knd:=knd) fun led hN=>?_)
 have hS1:(s.heap.push { cls:=.type "set",dict:=none,data:=.set #[] 0 (.fresh 0 0 led) }).SetOf knd a S n:=⟨o,es,ep,t,Heap.get?_push_of_some _ ho,hex,hd,hel,hmem,hb,hf,en⟩
 have hT1:(s.heap.push { cls:=.type "set",dict:=none,data:=.set #[] 0 (.fresh 0 0 led) }).SetOf knd b T m:=⟨o2,es2,ep2,t2,Heap.get?_push_of_some _ ho2,hex2,hd2,hel2,hmem2,hb2,hf2,en2⟩
 refine wpAny_bind (wpAny_pure ?_)
 refine wpAny_bind (wpAny_holding ?_)
 refine wpAny_bind (zy hT1 ?_)
 refine wpAny_ite_split (fun _=>?_) (fun z=>absurd rfl z)
 refine wpAny_bind (wpAny_pure ?_)
 have size_of:∀ {g:Heap} {c:Addr} {U:K→Bool} {q:Nat} {Q':Nat→Shared→Prop},g.SetOf knd c U q→Q' q { s with heap:=g }→wpAny (model prog w) A.in1 (Builtin.Frozenset.sizeOf c) Q' E { s with heap:=g }:=fun {g c U q Q'} hU hq=>by
  obtain ⟨o',es',ep',t',ho',_,hd',_,_,_,hf',en'⟩:=hU
  unfold Builtin.Frozenset.sizeOf
  refine wpAny_bind (wpAny_setEntries_of ho' hd' hf' (wpAny_pure ?_))
  rw [en']
  exact hq
 refine wpAny_bind (size_of hT1 (wpAny_bind (size_of hS1 ?_)))
 by_cases hgt:m > n
 ·simp only [if_pos hgt]
  refine pZ (nm:=nm) (knd:=knd) nar nbr hS1 hT1 hN hn fun g L hg hnd hL hgL=>wpAny_pure (wpAny_pure ⟨_,rfl,(fun z=>nomatch z),h g L (fun c o' e=>hg.extBut _ _ (Nat.ne_of_lt (Heap.lt_size e)) (Heap.get?_push_of_some _ e)) hnd hL hgL⟩)
 ·simp only [if_neg hgt]
  refine pZ (nm:=nm) (knd:=knd) nbr nar hT1 hS1 hN hm fun g L hg hnd hL hgL=>wpAny_pure (wpAny_pure ⟨_,rfl,(fun z=>nomatch z),h g L (fun c o' e=>hg.extBut _ _ (Nat.ne_of_lt (Heap.lt_size e)) (Heap.get?_push_of_some _ e)) hnd (fun k=>(hL k).trans and_comm) ?_⟩)
  have e:(fun k=>T k && S k)=fun k=>S k && T k:=funext fun k=>Bool.and_comm _ _
  rw [← e]
  exact hgL
end
end SA
namespace L2
open PySem PySem.Spec PyProof.Rows
def Ew (ns:List Int) (k:Int):Bool:=decide (k∈ns)
theorem Bs (ns:List Int):SX.have_ (fun i=>ns.getD i 0) ns.length=Ew ns:=funext fun k=>by
 unfold SX.have_ Ew
 have e:(List.range ns.length).map (fun i=>ns.getD i 0)=ns:=by
  apply List.ext_getElem (by simp)
  intro i h1 h2
  simp [List.getD_eq_getElem?_getD]
  rw [List.getElem?_eq_getElem h2]
  rfl
 rw [e,Bool.eq_iff_iff,List.any_eq_true]
 simp
theorem Es {ns:List Int} {its:List Value} (r:Vals (ns.map V.int) its) {i:Nat} {v:Value} (h:its[i]?=some v):∃ t,v=.int (ns.getD i 0) t:=by
 have hi:i < ns.length:=by
  have:=(List.getElem?_eq_some_iff.mp h).1
  have:=r.length
  rw [List.length_map] at this
  omega
 obtain ⟨u,hu,ru⟩:=r.get (i:=i) (x:=.int (ns.getD i 0)) (by rw [List.getElem?_map,List.getElem?_eq_getElem hi,List.getD_eq_getElem?_getD,List.getElem?_eq_getElem hi]; rfl)
 rw [hu] at h
 cases h
 exact ru
def Kl (K:PySem.W.Frag):List V→Hp→VK→Prop:=fun xs H Q=>∃ (p:Addr) (ns:List Int),xs=[.ref p]∧SqL K H p (ns.map V.int)∧ns.length≤4000∧∀ (a:Addr) (n:Nat),H a=none→n≤ns.length→Q (.ref a) (upd H a (.set (Ew ns) n))
theorem pH {X:Cx} (hc:X.calm=true):fK X (.type "set") (Kl X.K):=by
 intro pins s σ H xs us Q I r h
 obtain ⟨p,ns,rfl,hp,hz,q⟩:=h
 obtain ⟨u,rfl,rx⟩:=vals1 r
 cases rx
 obtain ⟨its,rv,pl,hzz⟩:=I.list hp
 have hl:=rv.length
 rw [List.length_map] at hl
 have hsz:its.toArray.size=ns.length:=by simp [hl]
 refine SX.call_set_list (knd:=intKind X.prog X.w) (val:=fun i=>ns.getD i 0) (I.ok.hd hc) pl.isList (fun i v hv=>?_) (by rw [hsz]; unfold scanBound; omega) fun g tk hS kp=>?_
 ·obtain ⟨t,rfl⟩:=Es rv (by simpa using hv)
  exact ⟨by simp [intKind,Value.isInt],rfl⟩
 ·rw [hsz,Bs] at hS
  exact ⟨.ref s.heap.objs.size,_,I.laid (t':=tk) (o:=.set (Ew ns) _) (fun b o e=>kp b o (Heap.lt_size e) e) (Nat.le_refl _) hS,rfl,q _ _ I.fresh (SX.qR _ _)⟩
def Kh:R2:=fun x y H Q=>∃ (p q:Addr) (S T:Int→Bool) (n m:Nat),x=.ref p∧y=.ref q∧p≠q∧H p=some (.set S n)∧H q=some (.set T m)∧n≤4000∧m≤4000 ∧
 ∀ (a:Addr) (L:List Int),H a=none→L.Nodup→(∀ k,k∈L↔S k=true∧T k=true)→Q (.ref a) (upd H a (.set (fun k=>S k && T k) L.length))
theorem Ge {X:Cx}:OpR X (binaryOp .BitAnd) Kh:=by
 intro pins s σ H x y v u Q I rx ry h
 obtain ⟨p,q,S,T,n,m,rfl,rfl,hpq,hp,hq,hn,hm,k⟩:=h
 cases rx
 cases ry
 have h1:s.heap.SetOf (intKind X.prog X.w) p S n:=(show cL X.prog X.w H s.heap p (.set S n) from I.hok p _ hp)
 have h2:s.heap.SetOf (intKind X.prog X.w) q T m:=(show cL X.prog X.w H s.heap q (.set T m) from I.hok q _ hq)
 refine SA.Aj hpq h1 h2 (by unfold scanBound; omega) (by unfold scanBound; omega) fun g L kp hnd hL hg=>?_
 exact ⟨.ref s.heap.objs.size,_,I.laid (t':=s.toks) (o:=.set (fun k=>S k && T k) L.length) kp (Nat.le_refl _) hg,rfl,k _ L I.fresh hnd hL⟩
theorem oJ {X:Cx}:fK X (.builtin "len") (fun xs H Q=>∃ (p:Addr) (S:Int→Bool) (n:Nat),xs=[.ref p]∧H p=some (.set S n)∧Q (.int (n:Nat)) H):=by
 intro pins s σ H xs us Q I r h
 obtain ⟨p,S,n,rfl,hp,q⟩:=h
 obtain ⟨u,rfl,rx⟩:=vals1 r
 cases rx
 obtain ⟨o,es,ep,t,eo,ex,ed,_,_,hb,hf,hn⟩:=(show cL X.prog X.w H s.heap p (.set S n) from I.hok p _ hp)
 refine call_len_set eo ex ed hf (by unfold scanBound at hb; omega) ?_
 rw [hn]
 exact ⟨.int (n:Nat),H,I.tok _,⟨_,rfl⟩,q⟩
end L2
namespace L2
open PySem PySem.Spec PyProof.Rows
theorem any_range (bs:List Bool):(List.range bs.length).any (fun i=>bs.getD i true)=bs.any id:=by
 rw [Bool.eq_iff_iff,List.any_eq_true,List.any_eq_true]
 constructor
 ·rintro ⟨i,hi,h⟩
  have hi':=List.mem_range.mp hi
  rw [List.getD_eq_getElem?_getD,List.getElem?_eq_getElem hi'] at h
  exact ⟨_,List.getElem_mem hi',h⟩
 ·rintro ⟨b,hb,h⟩
  obtain ⟨i,hi,e⟩:=List.getElem_of_mem hb
  refine ⟨i,List.mem_range.mpr hi,?_⟩
  rw [List.getD_eq_getElem?_getD,List.getElem?_eq_getElem hi,e]
  exact h
theorem oY {X:Cx} (hc:X.calm=true):fK X (.builtin "any") (fun xs H Q=>∃ (l:Addr) (bs:List Bool),xs=[.ref l]∧SqL X.K H l (bs.map V.bl)∧Q (.bl (bs.any id)) H):=by
 intro pins s σ H xs us Q I r h
 obtain ⟨l,bs,rfl,hq,q⟩:=h
 obtain ⟨u,rfl,ru⟩:=vals1 r
 cases ru
 obtain ⟨its,rv,p,hz⟩:=I.list hq
 have hd:X.A.in1.handled=none:=I.ok.hd hc
 have hl:=rv.length
 refine call_any_walk (wpAny_pyIter_list p.isList ?_)
 obtain ⟨o,n,eo,_⟩:=id p
 have hne:l≠s.heap.objs.size:=Nat.ne_of_lt (Heap.lt_size eo)
 refine ⟨s.heap.objs.size,_,_,_,_,_,fun i=>bs.getD i true,rfl,Walks.list hd s.heap.objs.size l hne its.toArray,⟨⟨_,Heap.get?_push_size _ rfl,rfl,rfl⟩,p.isList.push _⟩,fun i v s' Q' E' hv hQ'=>?_,fun h' tk hk=>?_⟩
 ·rw [Dz rv hv]
  exact wpAny_truthy_bool hQ'
 ·have e:its.toArray.size=bs.length:=by rw [List.size_toArray,← hl,List.length_map]
  rw [e,any_range]
  have I1:Inv X pins σ H { s with heap:=s.heap.push { cls:=.type "list_iterator",data:=.fields #[.ref l,.int 0 0] } }:=I.kept (t':=s.toks) fun b o q=>Heap.get?_push_of_some _ q
  obtain ⟨f0,f1,f2,f3,f4,f5⟩:=I.fpOk (b:=s.heap.objs.size) (Nat.le_refl _) I.fresh
  exact ⟨.bl _,H,I1.turned (it:=s.heap.objs.size) (fun b o hb e=>hk b o (by simpa using hb) e) f0 f1 f3 f4 f5,rfl,q⟩
theorem tD {X:Cx}:MtR X "str.upper" (fun x xs H Q=>∃ r:List Nat,x=.str ⟨r.toArray⟩∧xs=[]∧(∀ c∈r,c < 128)∧r.length≤100000∧Q (.str ⟨(r.map up1).toArray⟩) H):=by
 intro pins s σ H x xs v us Q I rx r h
 obtain ⟨l,rfl,rfl,hc,hl,q⟩:=h
 obtain ⟨t,rfl⟩:=rx
 cases r
 refine SCL.upper (by show l.toArray.size≤_; rw [List.size_toArray]; omega) fun _=>?_
 rw [upper_ascii (x:=⟨l.toArray⟩) (by simpa using hc)]
 have e:(⟨l.toArray.map up1⟩:Str)=⟨(l.map up1).toArray⟩:=by rw [List.map_toArray]
 rw [e]
 exact ⟨.str _,H,I.tok _,⟨_,rfl⟩,q⟩
theorem IW {c:Nat} (h:c < 128):up1 c < 128:=(by decide +kernel:∀ c:Nat,c < 128→up1 c < 128) c h
end L2
namespace L2
open PySem PySem.Spec PyProof.Rows
section
variable {X:Cx}
end
end L2
namespace L2
open PySem PySem.Spec PyProof.Rows
section
variable {prog:Program} {w:World} {A:Around} {E:Value→Shared→Prop} {s:Shared}
end
def JT (n:Nat) (H:Hp):List V→List V→Prop
 | [],[]=>True
 | x :: xs,y :: ys=>((x=.non∧y=.non)∨∃ d,iT n d∧Den H x d∧Den H y d)∧JT n H xs ys
 | _,_=>False
end L2
namespace L2
open PySem PySem.Spec PyProof.Rows
def Ma (F:List (Str × List Str)):List (Str × KTD.Dat):=F.map fun p=>(p.1,.tup (p.2.map PyData.str))
def LK (K:PySem.W.Frag) (t:Addr) (F:List (Str × List Str)):Prop:=KTD.tabLook (KTD.datLooks fun b=>K.lookup b) (fun b=>K.lookup b) t (Ma F)=true
def RK (K:PySem.W.Frag) (d:KTD.Dat) (v:Value):Prop:=KTD.datLooks (fun b=>K.lookup b) d v=true
theorem LK.here {K:PySem.W.Frag} {t:Addr} {F:List (Str × List Str)} {h:Heap} (k:LK K t F) (X:K.In h):KTD.Here h h t (Ma F):=⟨PySem.W.kt_text_in X k,fun _ _ e=>e⟩
theorem vQ:∀ {ss:List Str} {vs:List Value},KTD.flatsLook (ss.map PyData.str) vs=true→Vals (ss.map V.str) vs
 | [],[],_=>.nil
 | s :: ss,v :: vs,h=>by
  simp only [List.map_cons,KTD.flatsLook,Bool.and_eq_true] at h
  refine .cons ?_ (vQ h.2)
  have h1:=h.1
  cases v <;> simp [KTD.flatLooks] at h1
  subst h1
  exact ⟨_,rfl⟩
 | [],_ :: _,h=>by simp [KTD.flatsLook] at h
 | _ :: _,[],h=>by simp [KTD.flatsLook] at h
section
variable {prog:Program} {w:World} {A:Around} {E:Value→Shared→Prop} {s:Shared}
end
end L2
namespace L2
open PySem PySem.Spec PyProof.Rows
inductive Th where
 | non | bl (b:Bool) | int (i:Int) | str (x:Str) | tup (ts:List Th) | lst | dct
mutual
def ThV (K:PySem.W.Frag) (B:List Addr) (H:Hp):V→Th→Prop
 | v,.non=>v=.non
 | v,.bl b=>v=.bl b
 | v,.int i=>v=.int i
 | v,.str x=>v=.str x∧x.length≤1000
 | v,.tup ts=>∃ (p:Addr) (vs:List V),v=.ref p∧SqT K H p vs∧ThL K B H vs ts
 | v,.lst=>∃ (p:Addr) (vs:List V),v=.ref p∧p ∉ B∧H p=some (.lst vs)
 | v,.dct=>∃ (p:Addr) (kvs:List (Key × V)),v=.ref p∧p ∉ B∧H p=some (.dK kvs)
def ThL (K:PySem.W.Frag) (B:List Addr) (H:Hp):List V→List Th→Prop
 | [],[]=>True
 | v :: vs,t :: ts=>ThV K B H v t∧ThL K B H vs ts
 | _,_=>False
end
section
variable {K:PySem.W.Frag} {B:List Addr} {H H':Hp}
theorem Cq {a:Addr} {xs:List V} (e:∀ (b:Addr) (o:HO),H b=some o→(∀ ys,o≠.lst ys)→(∀ ys,o≠.dK ys)→H' b=some o) (h:SqT K H a xs):SqT K H' a xs:=by
 rcases h with (h | ⟨o,h⟩) | h
 ·exact .inl (.inl (e _ _ h (fun _ z=>nomatch z) (fun _ z=>nomatch z)))
 ·exact .inl (.inr ⟨o,e _ _ h (fun _ z=>nomatch z) (fun _ z=>nomatch z)⟩)
 ·exact .inr h
mutual
theorem ThV.keep (e:∀ (b:Addr) (o:HO),H b=some o→(∀ ys,o≠.lst ys)→(∀ ys,o≠.dK ys)→H' b=some o) (f:∀ (b:Addr) (o:HO),b ∉ B→H b=some o→H' b=some o):∀ {t:Th} {v:V},ThV K B H v t→ThV K B H' v t
 | .non,_,h=>h
 | .bl _,_,h=>h
 | .int _,_,h=>h
 | .str _,_,h=>h
 | .tup ts,_,h=>by
  obtain ⟨p,vs,rfl,hp,hd⟩:=h
  exact ⟨p,vs,rfl,Cq e hp,ThL.keep e f hd⟩
 | .lst,_,h=>by
  obtain ⟨p,vs,rfl,hb,hp⟩:=h
  exact ⟨p,vs,rfl,hb,f _ _ hb hp⟩
 | .dct,_,h=>by
  obtain ⟨p,vs,rfl,hb,hp⟩:=h
  exact ⟨p,vs,rfl,hb,f _ _ hb hp⟩
theorem ThL.keep (e:∀ (b:Addr) (o:HO),H b=some o→(∀ ys,o≠.lst ys)→(∀ ys,o≠.dK ys)→H' b=some o) (f:∀ (b:Addr) (o:HO),b ∉ B→H b=some o→H' b=some o):∀ {ts:List Th} {vs:List V},ThL K B H vs ts→ThL K B H' vs ts
 | [],[],_=>trivial
 | _ :: _,_ :: _,h=>⟨ThV.keep e f h.1,ThL.keep e f h.2⟩
 | [],_ :: _,h=>h.elim
 | _ :: _,[],h=>h.elim
end
def Fp:Th→String
 | .non=>"NoneType"
 | .bl _=>"bool"
 | .int _=>"int"
 | .str _=>"str"
 | .tup _=>"tuple"
 | .lst=>"list"
 | .dct=>"dict"
def BP (n:String) (t:Th):Bool:=Fp t == n || (Fp t == "bool" && n == "int")
theorem GF:∀ T∈["NoneType", "bool", "int", "str", "tuple", "list", "dict"],∀ n∈["int", "bool", "str", "tuple"],
  (if (Value.type T == Value.type n)=true then some true else (if PySem.W.kitMeta n=true then (fastBuiltinMro T).map (·.contains (.type n)) else none))=some (T == n || (T == "bool" && n == "int")):=by decide +kernel
theorem Jb (K:PySem.W.Frag) (n:String) (hn:n = "int"∨n = "bool"∨n = "str"∨n = "tuple") (t:Th):PySem.W.kitOne K (.type (Fp t)) (.type n)=some (BP n t):=by
 refine Hy K (GF _ ?_ _ ?_)
 ·cases t <;> simp [Fp]
 ·rcases hn with rfl | rfl | rfl | rfl <;> simp
end
end L2
namespace L2
open PySem PySem.Spec PyProof.Rows
mutual
def TgV (B:List Addr) (H:Hp):V→Th→Prop
 | v,.non=>v=.non
 | v,.bl b=>v=.bl b
 | v,.int i=>v=.int i
 | v,.str x=>v=.str x
 | v,.tup ts=>∃ (p:Addr) (vs:List V),v=.ref p∧H p=some (.tup vs)∧TgL B H vs ts
 | v,.lst=>∃ (p:Addr) (vs:List V),v=.ref p∧p ∉ B∧H p=some (.lst vs)
 | v,.dct=>∃ (p:Addr) (kvs:List (Key × V)),v=.ref p∧p ∉ B∧H p=some (.dK kvs)
def TgL (B:List Addr) (H:Hp):List V→List Th→Prop
 | [],[]=>True
 | v :: vs,t :: ts=>TgV B H v t∧TgL B H vs ts
 | _,_=>False
end
section
variable {B:List Addr} {H H':Hp}
mutual
theorem TgV.keep (e:∀ (b:Addr) (vs:List V),H b=some (.tup vs)→H' b=some (.tup vs)) (f:∀ (b:Addr) (o:HO),b ∉ B→H b=some o→H' b=some o):∀ {t:Th} {v:V},TgV B H v t→TgV B H' v t
 | .non,_,h=>h
 | .bl _,_,h=>h
 | .int _,_,h=>h
 | .str _,_,h=>h
 | .tup ts,_,h=>by
  obtain ⟨p,vs,rfl,hp,hd⟩:=h
  exact ⟨p,vs,rfl,e _ _ hp,TgL.keep e f hd⟩
 | .lst,_,h=>by
  obtain ⟨p,vs,rfl,hb,hp⟩:=h
  exact ⟨p,vs,rfl,hb,f _ _ hb hp⟩
 | .dct,_,h=>by
  obtain ⟨p,vs,rfl,hb,hp⟩:=h
  exact ⟨p,vs,rfl,hb,f _ _ hb hp⟩
theorem TgL.keep (e:∀ (b:Addr) (vs:List V),H b=some (.tup vs)→H' b=some (.tup vs)) (f:∀ (b:Addr) (o:HO),b ∉ B→H b=some o→H' b=some o):∀ {ts:List Th} {vs:List V},TgL B H vs ts→TgL B H' vs ts
 | [],[],_=>trivial
 | _ :: _,_ :: _,h=>⟨TgV.keep e f h.1,TgL.keep e f h.2⟩
 | [],_ :: _,h=>h.elim
 | _ :: _,[],h=>h.elim
end
theorem TgV.same (s:Same H H') {t:Th} {v:V} (h:TgV B H v t):TgV B H' v t:=h.keep (fun b o e=>s b _ e) fun b o _ e=>s b o e
theorem TgL.same (s:Same H H') {ts:List Th} {vs:List V} (h:TgL B H vs ts):TgL B H' vs ts:=h.keep (fun b o e=>s b _ e) fun b o _ e=>s b o e
theorem TgL.len:∀ {ts:List Th} {vs:List V},TgL B H vs ts→vs.length=ts.length
 | [],[],_=>rfl
 | _ :: _,_ :: _,h=>congrArg (· + 1) (TgL.len h.2)
 | [],_ :: _,h=>h.elim
 | _ :: _,[],h=>h.elim
theorem TgL.at_:∀ {ts:List Th} {vs:List V} {i:Nat} {v:V},TgL B H vs ts→vs[i]?=some v→∃ t,ts[i]?=some t∧TgV B H v t
 | t :: _,_ :: _,0,_,h,e=>by
  cases e
  exact ⟨t,rfl,h.1⟩
 | _ :: ts,_ :: vs,i+1,_,h,e=>TgL.at_ (ts:=ts) (vs:=vs) (i:=i) h.2 (by simpa using e)
 | [],[],_,_,_,e=>by cases e
 | [],_ :: _,_,_,h,_=>h.elim
 | _ :: _,[],_,_,h,_=>h.elim
theorem TgL.app:∀ {ts us:List Th} {vs ws:List V},TgL B H vs ts→TgL B H ws us→TgL B H (vs++ws) (ts++us)
 | [],_,[],_,_,h=>h
 | _ :: _,_,_ :: _,_,h,g=>⟨h.1,TgL.app h.2 g⟩
 | [],_,_ :: _,_,h,_=>h.elim
 | _ :: _,_,[],_,h,_=>h.elim
theorem TgL.drop:∀ {ts:List Th} {vs:List V} (n:Nat),TgL B H vs ts→TgL B H (vs.drop n) (ts.drop n)
 | _,_,0,h=>h
 | _ :: _,_ :: _,n+1,h=>TgL.drop n h.2
 | [],[],_+1,_=>trivial
 | [],_ :: _,_,h=>h.elim
 | _ :: _,[],_,h=>h.elim
theorem TgL.take:∀ {ts:List Th} {vs:List V} (n:Nat),TgL B H vs ts→TgL B H (vs.take n) (ts.take n)
 | [],[],0,_=>trivial
 | _ :: _,_ :: _,0,_=>trivial
 | _ :: _,_ :: _,n+1,h=>⟨h.1,TgL.take n h.2⟩
 | [],[],_+1,_=>trivial
 | [],_ :: _,_,h=>h.elim
 | _ :: _,[],_,h=>h.elim
end
def KC:List V→Hp→VK→Prop:=fun xs H Q=>∃ (x:V) (n:String) (B:List Addr) (t:Th),xs=[x,.ty n]∧TgV B H x t∧(n = "int"∨n = "bool"∨n = "str"∨n = "tuple")∧Q (.bl (BP n t)) H
theorem bY {X:Cx}:fK X (.builtin "isinstance") KC:=by
 intro pins s σ H xs us Q I r h
 obtain ⟨x,n,B,t,rfl,ht,hn,q⟩:=h
 have e:=Jb X.K n hn t
 cases t with
 | non =>
  obtain rfl:x=.non:=ht
  exact dh pins s σ H _ _ Q I r ⟨_,n,_,_,rfl,.non,e,q⟩
 | bl b =>
  obtain rfl:x=.bl b:=ht
  exact dh pins s σ H _ _ Q I r ⟨_,n,_,_,rfl,.bl b,e,q⟩
 | int i =>
  obtain rfl:x=.int i:=ht
  exact dh pins s σ H _ _ Q I r ⟨_,n,_,_,rfl,.int i,e,q⟩
 | str z =>
  obtain rfl:x=.str z:=ht
  exact dh pins s σ H _ _ Q I r ⟨_,n,_,_,rfl,.str z,e,q⟩
 | tup ts =>
  obtain ⟨p,vs,rfl,hp,_⟩:=ht
  exact dh pins s σ H _ _ Q I r ⟨_,n,_,_,rfl,.tup hp,e,q⟩
 | lst =>
  obtain ⟨p,vs,rfl,_,hp⟩:=ht
  exact dh pins s σ H _ _ Q I r ⟨_,n,_,_,rfl,.lst hp,e,q⟩
 | dct =>
  obtain ⟨p,vs,rfl,_,hp⟩:=ht
  exact dh pins s σ H _ _ Q I r ⟨_,n,_,_,rfl,.dK hp,e,q⟩
theorem xP {X:Cx}:fK X (.type "str") (fun xs H Q=>∃ i:Int,xs=[.int i]∧i.natAbs.log2 < 1920∧∀ x:Str,Q (.str x) H):=by
 intro pins s σ H xs us Q I r h
 obtain ⟨i,rfl,hi,q⟩:=h
 obtain ⟨u,rfl,t,rfl⟩:=vals1 r
 exact P.str_of_int hi ⟨.str _,H,I.tok _,⟨_,rfl⟩,q _⟩
theorem Bl {X:Cx}:OpR X (compareOp .Is) (fun x y H Q=>∃ a b,x=.bl a∧y=.bl b∧Q (.bl (a == b)) H):=by
 intro pins s σ H x y v u Q I rx ry h
 obtain ⟨a,b,rfl,rfl,q⟩:=h
 cases rx
 cases ry
 refine wpAny_is_plain rfl ?_
 have e:(Value.bool a == Value.bool b)=(a == b):=by cases a <;> cases b <;> rfl
 rw [e]
 exact ⟨.bl _,H,I,rfl,q⟩
end L2
namespace L2
open PySem PySem.Spec PyProof PyProof.Rows
def FJ (K:PySem.W.Frag):R2:=fun x y H Q=>∃ (p:Addr) (us:List V) (d:D) (es:List D) (n:Nat),y=.ref p∧(SqL K H p us∨SqT K H p us)∧Den H x d∧cQ H us es∧(∀ e∈es,∃ r,e=.tup r)∧(∃ r,d=.tup r)∧iT n d∧(∀ e∈es,iT n e∧Sim e d)∧n≤50∧Q (.bl (!(es.any fun e=>eqD e d))) H
open Classical in
theorem vP {X:Cx} (hu:X.A.units+64 < cLine):OpR X (compareOp .NotIn) (FJ X.K):=by
 intro pins s σ H x y v u Q I rx ry h
 obtain ⟨p,us,d,es,n,rfl,hq,hx,hde,htup,⟨r0,rfl⟩,hsd,hse,hn,q⟩:=h
 cases ry
 have cm:=JX I (s':=s) (fun b o z=>z) n
 have key:∀ its:List Value,Vals us its→(∀ w∈its,SeqAt.EqAt X.A.in1 s w v (decide (∃ a e,w=Value.ref a∧Den H (.ref a) e∧eqD e (.tup r0)=true)))∧its.any (fun w=>decide (∃ a e,w=Value.ref a∧Den H (.ref a) e∧eqD e (.tup r0)=true))=es.any fun e=>eqD e (.tup r0):=by
  intro its r
  have at_:∀ (i:Nat) (w:Value),its[i]?=some w→∃ a e,es[i]?=some e∧w=.ref a∧Den H (.ref a) e:=fun i w hw=>by
   have hl:=r.length
   have hi:=(List.getElem?_eq_some_iff.mp hw).1
   obtain ⟨e,he,de⟩:=hde.at_ (List.getElem?_eq_getElem (by omega:i < us.length))
   obtain ⟨r1,rfl⟩:=htup e (List.mem_of_getElem? he)
   obtain ⟨a,vs,ea,ha,hd⟩:=bO de
   obtain ⟨w',hw',rw'⟩:=r.get (List.getElem?_eq_getElem (by omega:i < us.length))
   rw [hw] at hw'
   cases hw'
   rw [ea] at rw' de
   cases rw'
   exact ⟨a,_,he,rfl,de⟩
  have val:∀ {a:Addr} {e:D},Den H (.ref a) e→decide (∃ a' e',Value.ref a=Value.ref a'∧Den H (.ref a') e'∧eqD e' (.tup r0)=true)=eqD e (.tup r0):=fun {a e} de=>by
   rw [Bool.eq_iff_iff,decide_eq_true_eq]
   constructor
   ·rintro ⟨a',e',ea,de',h⟩
    injection ea with ea
    subst ea
    rw [Den.det de de']
    exact h
   ·exact fun h=>⟨a,e,rfl,de,h⟩
  refine ⟨fun w hw=>?_,?_⟩
  ·obtain ⟨i,hi,rfl⟩:=List.getElem_of_mem hw
   obtain ⟨a,e,he,ew,de⟩:=at_ i _ (List.getElem?_eq_getElem hi)
   rw [ew,val de]
   obtain ⟨s1,s2⟩:=hse e (List.mem_of_getElem? he)
   exact (cm e (.tup r0) X.A.in1 (.ref a) x (.ref a) v s1 hsd s2 de hx rfl rx (by first | (simp only [Around.in1]; omega) | omega)).1
  ·refine Dl (by rw [← r.length,hde.len]) fun i w e hw he=>?_
   obtain ⟨a,e',he',ew,de⟩:=at_ i w hw
   rw [he] at he'
   cases he'
   rw [ew]
   exact val de
 rcases hq with hq | hq
 ·obtain ⟨its,r,pl,hz⟩:=I.list hq
  obtain ⟨k1,k2⟩:=key its r
  refine SeqAt.notIn_listAt (fun w=>decide (∃ a e,w=Value.ref a∧Den H (.ref a) e∧eqD e (.tup r0)=true)) pl.isList (fun w hw=>k1 w (by simpa using hw)) ⟨.bl _,H,I,rfl,?_⟩
  rw [show its.toArray.any (fun w=>decide (∃ a e,w=Value.ref a∧Den H (.ref a) e∧eqD e (.tup r0)=true))=its.any (fun w=>decide (∃ a e,w=Value.ref a∧Den H (.ref a) e∧eqD e (.tup r0)=true)) by simp,k2]
  exact q
 ·obtain ⟨its,r,pl,hz⟩:=I.tuple hq
  obtain ⟨k1,k2⟩:=key its r
  refine SeqAt.notIn_tupleAt (fun w=>decide (∃ a e,w=Value.ref a∧Den H (.ref a) e∧eqD e (.tup r0)=true)) pl (fun w hw=>k1 w (by simpa using hw)) ⟨.bl _,H,I,rfl,?_⟩
  rw [show its.toArray.any (fun w=>decide (∃ a e,w=Value.ref a∧Den H (.ref a) e∧eqD e (.tup r0)=true))=its.any (fun w=>decide (∃ a e,w=Value.ref a∧Den H (.ref a) e∧eqD e (.tup r0)=true)) by simp,k2]
  exact q
end L2
namespace MT
open PySem
abbrev kwD (d:Value):List (Str × Value):=[(Str.ofString "default",d)]
section
variable {prog:Program} {w:World} {A:Around} {R:Result→Shared→Prop} {It:Addr} {fp wr:List Addr} {n:Nat} {Pr:Nat→Value→Prop} {Sx:Nat→Heap→Prop}
end
section
variable {prog:Program} {w:World} {A:Around} {E:Value→Shared→Prop} {s:Shared}
theorem Gm {id:String} {b:Builtin} {args:List Value} {kw:List (Str × Value)} {Q:Value→Shared→Prop} (h1:builtinKind id=none) (h2:plainId id=true) (h3:entryFor table id=some b) (h4:argsOk id ⟨args,kw⟩)
  (h:wpAny (model prog w) A.in1 (b ⟨args,kw⟩) (fun fin s'=>match fin with
   | .done f=>(match (Except.ok f:Result) with | .ok (.ret v)=>Q v s' | .ok _=>False | .error e=>E e s')
   | .again c'=>c'.quiet=true∧codeAny (model prog w) A c' (fun r s'=>match r with | .ok (.ret v)=>Q v s' | .ok _=>False | .error e=>E e s') s') E s):wpAny (model prog w) A (call (.builtin id) args kw) Q E s:=by
 refine wpAny_call (codeAny_call_builtin h2 h3 ?_)
 simp only [checkBuiltinCall,h1]
 cases e:Manifest.signature? id with
 | none=>exact wpAny_pure h
 | some sg =>
  have h4':Bind.checkArgs id sg ⟨args,kw⟩=pure ():=by simpa only [argsOk,e] using h4
  simp only [h4']
  exact wpAny_pure h
end
end MT
namespace MU
open PySem
theorem Io (a:Value):argsOk "min" ⟨[a],[]⟩:=by
 unfold argsOk
 kernel_rfl
section
variable {prog:Program} {w:World} {A:Around} {R:Result→Shared→Prop} {It:Addr} {fp wr:List Addr} {n:Nat} {Pr:Nat→Value→Prop} {Sx:Nat→Heap→Prop}
theorem nm:(toString "min" ++ toString ".loop" : String) = "min.loop":=by decide
theorem on (W:Walks prog w A.in1 It fp wr n Pr Sx) (bt:Nat→Nat→Bool) {base:Heap} (cm:∀ i j vi vj (s:Shared) (Q:Value→Shared→Prop) (E:Value→Shared→Prop),(∀ b o,base.get? b=some o→s.heap.get? b=some o)→Pr i vi→Pr j vj→Q (.bool (bt i j)) s→wpAny (model prog w) A.in1 (richCompare .Lt vi vj) Q E s) (B:Addr) (nB:B ∉ fp) (hbw:∀ b o,base.get? b=some o→b ∉ wr∧b≠B) :
  ∀ (k j:Nat) (s:Shared) (best:Value) (c:Nat),n - (j+1)=k→j+1≤n→Sx (j+1) s.heap→Pr (argBest bt j) best →
  s.heap.get? B=some { cls:=.type "list",dict:=none,data:=.seq #[best,best] c,slots:=#[] }→(∀ b o,base.get? b=some o→s.heap.get? b=some o) →
  (∀ v h' tk,Pr (argBest bt (n - 1)) v→(∀ b o,b ∉ wr→b≠B→s.heap.get? b=some o→h'.get? b=some o)→R (.ok (.ret v)) { s with heap:=h',toks:=tk }) →
  codeAny (model prog w) A (.builtin "min.loop" ⟨[.ref It,.none,.ref B],[]⟩) R s:=by
 have nW:B ∉ wr:=fun z=>nB (W.sub _ z)
 intro k
 induction k with
 | zero =>
  intro j s best c ek ej st pb eB kb fin
  have en:j+1=n:=by omega
  refine codeAny_builtin PySem.F.entry_min_loop ?_
  rw [Around.under_plainId (PySem.F.plain_min_loop) _]
  show wpAny _ A.in1 (seqItems? (.ref B) >>= _) _ _ s
  refine wpAny_bind (wpAny_seqItems eB rfl ?_)
  show wpAny _ A.in1 (tryCatch (pyNext (.ref It)) _ >>= _) _ _ s
  refine wpAny_bind (wpAny_tryCatch (W.done s _ _ (en ▸ st) fun h' tk kp=>?_))
  have eB':=kp B _ nW eB
  show wpAny _ A.in1 (updateSeq B (fun _=>#[]) >>= _) _ _ _
  refine wpAny_bind ?_
  refine wpAny_updateSeq eB' rfl (wpAny_bind (wpAny_letGo (wpAny_pure ?_)))
  exact fin best _ tk (by rw [← en]; exact pb) fun b o nb nS e=>(Heap.get?_update_other _ _ (Ne.symm nS)).trans (kp b o nb e)
 | succ k ih =>
  intro j s best c ek ej st pb eB kb fin
  have lt:j+1 < n:=by omega
  refine codeAny_builtin PySem.F.entry_min_loop ?_
  rw [Around.under_plainId (PySem.F.plain_min_loop) _]
  show wpAny _ A.in1 (seqItems? (.ref B) >>= _) _ _ s
  refine wpAny_bind (wpAny_seqItems eB rfl ?_)
  show wpAny _ A.in1 (tryCatch (pyNext (.ref It)) _ >>= _) _ _ s
  refine wpAny_bind (wpAny_tryCatch (W.item (j+1) s _ _ lt st fun v h' tk pv st' kp=>?_))
  have eB':=kp B _ nW eB
  show wpAny _ A.in1 (tryCatch (holding [v,v] (richCompare .Lt v best >>= _)) _ >>= _) _ _ _
  refine wpAny_bind (wpAny_tryCatch (wpAny_holding (wpAny_bind (cm (j+1) (argBest bt j) v best _ _ _ (fun b o e=>kp b o (hbw b o e).1 (kb b o e)) pv pb ?_))))
  refine wpAny_bind (wpAny_holding (wpAny_truthy_bool ?_))
  refine wpAny_bind (wpAny_letGo (wpAny_pure ?_))
  cases eb:bt (j+1) (argBest bt j) with
  | true =>
   rw [if_pos rfl]
   refine wpAny_bind ?_
   refine wpAny_updateSeq eB' rfl (wpAny_bind (wpAny_letGo ?_))
   rw [nm]
   refine wpAny_pure ⟨plainId_quiet PySem.F.plain_min_loop _,ih (j+1) _ v _ (by omega) lt (W.frame _ _ _ st' fun b bf o e=>?_) (by simp only [argBest,eb,if_true]; exact pv) (Heap.get?_update_self _ eB' rfl) (fun b o e=>(Heap.get?_update_other _ _ (Ne.symm (hbw b o e).2)).trans (kp b o (hbw b o e).1 (kb b o e))) fun v' h2 tk2 pv' kp2=>?_⟩
   ·exact (Heap.get?_update_other _ _ (fun z:B=b=>nB (by rw [z]; exact bf))).trans e
   ·exact fin v' h2 tk2 pv' fun b o nb nS e=>kp2 b o nb nS ((Heap.get?_update_other _ _ (Ne.symm nS)).trans (kp b o nb e))
  | false =>
   rw [if_neg Bool.false_ne_true]
   refine wpAny_bind (wpAny_letGo ?_)
   rw [nm]
   refine wpAny_pure ⟨plainId_quiet PySem.F.plain_min_loop _,ih (j+1) _ best c (by omega) lt st' (by simp only [argBest,eb,Bool.false_eq_true,if_false]; exact pb) eB' (fun b o e=>kp b o (hbw b o e).1 (kb b o e)) fun v' h2 tk2 pv' kp2=>?_⟩
   exact fin v' h2 tk2 pv' fun b o nb nS e=>kp2 b o nb nS (kp b o nb e)
theorem begin_ (W:Walks prog w A.in1 It fp wr n Pr Sx) (bt:Nat→Nat→Bool) {base:Heap} (cm:∀ i j vi vj (s:Shared) (Q:Value→Shared→Prop) (E:Value→Shared→Prop),(∀ b o,base.get? b=some o→s.heap.get? b=some o)→Pr i vi→Pr j vj→Q (.bool (bt i j)) s→wpAny (model prog w) A.in1 (richCompare .Lt vi vj) Q E s) (B:Addr) (nB:B ∉ fp) (hbw:∀ b o,base.get? b=some o→b ∉ wr∧b≠B) {s:Shared} {c:Nat} (hn:0 < n) (st:Sx 0 s.heap)
  (eB:s.heap.get? B=some { cls:=.type "list",dict:=none,data:=.seq #[] c,slots:=#[] }) (kb:∀ b o,base.get? b=some o→s.heap.get? b=some o)
  (fin:∀ v h' tk,Pr (argBest bt (n - 1)) v→(∀ b o,b ∉ wr→b≠B→s.heap.get? b=some o→h'.get? b=some o)→R (.ok (.ret v)) { s with heap:=h',toks:=tk }) :
  codeAny (model prog w) A (.builtin "min.loop" ⟨[.ref It,.none,.ref B],[]⟩) R s:=by
 have nW:B ∉ wr:=fun z=>nB (W.sub _ z)
 refine codeAny_builtin PySem.F.entry_min_loop ?_
 rw [Around.under_plainId (PySem.F.plain_min_loop) _]
 show wpAny _ A.in1 (seqItems? (.ref B) >>= _) _ _ s
 refine wpAny_bind (wpAny_seqItems eB rfl ?_)
 show wpAny _ A.in1 (tryCatch (pyNext (.ref It)) _ >>= _) _ _ s
 refine wpAny_bind (wpAny_tryCatch (W.item 0 s _ _ hn st fun v h' tk pv st' kp=>?_))
 have eB':=kp B _ nW eB
 show wpAny _ A.in1 (updateSeq B (fun _=>#[v,v]) >>= _) _ _ _
 refine wpAny_bind ?_
 refine wpAny_updateSeq eB' rfl ?_
 rw [nm]
 refine wpAny_pure ⟨plainId_quiet PySem.F.plain_min_loop _,on W bt cm B nB hbw _ 0 _ v _ rfl hn (W.frame _ _ _ st' fun b bf o e=>?_) pv (Heap.get?_update_self _ eB' rfl) (fun b o e=>(Heap.get?_update_other _ _ (Ne.symm (hbw b o e).2)).trans (kp b o (hbw b o e).1 (kb b o e))) fun v' h2 tk2 pv' kp2=>?_⟩
 ·exact (Heap.get?_update_other _ _ (fun z:B=b=>nB (by rw [z]; exact bf))).trans e
 ·exact fin v' h2 tk2 pv' fun b o nb nS e=>kp2 b o nb nS ((Heap.get?_update_other _ _ (Ne.symm nS)).trans (kp b o nb e))
end
section
variable {prog:Program} {w:World} {A:Around} {E:Value→Shared→Prop} {s:Shared}
theorem call {x:Value} {Q:Value→Shared→Prop}
  (h:wpAny (model prog w) A.in1 (pyIter x) (fun it s2=>∃ I fp wr n Pr Sx bt,it=.ref I∧Walks prog w A.in1 I fp wr n Pr Sx∧Sx 0 s2.heap∧(∀ b∈fp,b < s2.heap.objs.size)∧(∃ base:Heap,(∀ i j vi vj (s:Shared) (Q:Value→Shared→Prop) (E:Value→Shared→Prop),(∀ b o,base.get? b=some o→s.heap.get? b=some o)→Pr i vi→Pr j vj→Q (.bool (bt i j)) s→wpAny (model prog w) A.in1 (richCompare .Lt vi vj) Q E s)∧(∀ b o,base.get? b=some o→b ∉ wr∧s2.heap.get? b=some o)) ∧
   0 < n ∧
   (∀ v h' tk,Pr (argBest bt (n - 1)) v→(∀ b o,b ∉ wr→s2.heap.get? b=some o→h'.get? b=some o)→Q v { s2 with heap:=h',toks:=tk })) E s) :
  wpAny (model prog w) A (PySem.call (.builtin "min") [x] ([])) Q E s:=by
 refine MT.Gm PySem.F.kind_min PySem.F.plain_min PySem.F.entry_min (Io _) ?_
 show wpAny _ A.in1 (Builtin.Builtins.bindParams "min" ["key", "default"] 0 ⟨[],[]⟩ >>= _) _ _ s
 refine wpAny_bind (wpAny_of_eq (show Builtin.Builtins.bindParams "min" ["key", "default"] 0 ⟨[],[]⟩=pure [none,none] from rfl) ?_)
 refine wpAny_bind (wpAny_pure ?_)
 refine wpAny_bind (wpAny_mono h (fun it s2 h2=>?_) fun _ _ e=>e)
 obtain ⟨I,fp,wr,n,Pr,Sx,bt,rfl,W,st,hf,⟨base,cm,hb⟩,q0,q1⟩:=h2
 refine wpAny_bind (wpAny_newObj_type ?_)
 have nB:s2.heap.objs.size ∉ fp:=fun z=>Nat.lt_irrefl _ (hf _ z)
 rw [nm]
 refine wpAny_pure ⟨plainId_quiet PySem.F.plain_min_loop _,begin_ W bt cm s2.heap.objs.size nB (fun b o e=>⟨(hb b o e).1,Nat.ne_of_lt (Heap.lt_size (hb b o e).2)⟩) q0 (W.frame _ _ _ st fun b _ o e=>Heap.get?_push_of_some _ e) (Heap.get?_push_size _ rfl) (fun b o e=>Heap.get?_push_of_some _ (hb b o e).2) fun v h' tk pv kp=>?_⟩
 ·exact q1 v h' tk pv fun b o nb e=>kp b o nb (Nat.ne_of_lt (Heap.lt_size e)) (Heap.get?_push_of_some _ e)
end
end MU
namespace L2
open PySem PySem.Spec PyProof.Rows
theorem kI (ds:List D):∀ k j,j≤k→argBest (fun i k=>dlt (ds.getD i .non) (ds.getD k .non)) k≤k∧dlt (ds.getD j .non) (ds.getD (argBest (fun i k=>dlt (ds.getD i .non) (ds.getD k .non)) k) .non)=false
 | 0,j,h=>by
  have:j=0:=by omega
  subst this
  exact ⟨Nat.le_refl _,nu _⟩
 | k+1,j,h=>by
  have ih0:=(kI ds k k (Nat.le_refl _)).1
  show (if dlt (ds.getD (k+1) .non) (ds.getD (argBest _ k) .non)=true then k+1 else argBest _ k)≤k+1∧dlt _ (ds.getD (if dlt (ds.getD (k+1) .non) (ds.getD (argBest _ k) .non)=true then k+1 else argBest _ k) .non)=false
  by_cases hb:dlt (ds.getD (k+1) .non) (ds.getD (argBest (fun i k=>dlt (ds.getD i .non) (ds.getD k .non)) k) .non)=true
  ·rw [if_pos hb]
   refine ⟨Nat.le_refl _,?_⟩
   rcases Nat.lt_or_ge k j with hj | hj
   ·have:j=k+1:=by omega
    subst this
    exact nu _
   ·have ih:=(kI ds k j hj).2
    cases hc:dlt (ds.getD j .non) (ds.getD (k+1) .non) with
    | false=>rfl
    | true=>rw [uJ _ _ _ hc hb] at ih; cases ih
  ·rw [if_neg hb]
   refine ⟨Nat.le_succ_of_le ih0,?_⟩
   rcases Nat.lt_or_ge k j with hj | hj
   ·have:j=k+1:=by omega
    subst this
    exact Bool.eq_false_iff.mpr hb
   ·exact (kI ds k j hj).2
section
variable {X:Cx}
def Iw (K:PySem.W.Frag) (l:Addr) (vs:List V) (ds:List D) (H:Hp):Prop:=SqL K H l vs∧cQ H vs ds∧(∀ d∈ds,∀ e∈ds,Sim d e)∧∀ d∈ds,iT 50 d
theorem Cu {pins:List (Addr × Obj)} {σ:St} {H:Hp} {s:Shared} {l:Addr} {vs:List V} {ds:List D} (hc:X.calm=true) (hu:X.A.units+64 < cLine) (I:Inv X pins σ H s) (h:Iw X.K l vs ds H) :
  ∃ (its:List Value),Vals vs its∧s.heap.IsList l its.toArray∧its.length=ds.length ∧
   (∀ i j vi vj (s':Shared) (Q:Value→Shared→Prop) (E:Value→Shared→Prop),(∀ b o,s.heap.get? b=some o→s'.heap.get? b=some o)→its.toArray[i]?=some vi→its.toArray[j]?=some vj→Q (.bool (dlt (ds.getD i .non) (ds.getD j .non))) s'→wpAny (model X.prog X.w) X.A.in1 (richCompare .Lt vi vj) Q E s'):=by
 obtain ⟨hq,hD,hS,hh⟩:=h
 obtain ⟨its,rv,pl,hz⟩:=I.list hq
 have l1:=hD.len
 have l2:=rv.length
 refine ⟨its,rv,pl.isList,by omega,fun i j vi vj s' Q E kp hi hj q=>?_⟩
 rw [List.getElem?_toArray] at hi hj
 have hil:=(List.getElem?_eq_some_iff.mp hi).1
 have hjl:=(List.getElem?_eq_some_iff.mp hj).1
 obtain ⟨x,v,e1,e2,e3,e4,e5,e6⟩:=at3 (i:=i) hD rv (by omega)
 obtain ⟨y,u,f1,f2,f3,f4,f5,f6⟩:=at3 (i:=j) hD rv (by omega)
 rw [hi] at e2
 rw [hj] at f2
 cases e2
 cases f2
 exact (JX I (s':=s') kp 50 _ _ _ _ _ _ _ (hh _ e6) (hh _ f6) (hS _ e6 _ f6) e4 f4 e5 f5 (by simp only [Around.in1]; omega)).2 _ _ _ _ q
def Kq (K:PySem.W.Frag):List V→Hp→VK→Prop:=fun xs H Q=>∃ (l:Addr) (vs:List V) (ds:List D),xs=[.ref l]∧Iw K l vs ds H∧ds≠[]∧∀ (i:Nat) (v:V) (d:D),vs[i]?=some v→ds[i]?=some d→(∀ e∈ds,dlt e d=false)→Q v H
theorem yC (hc:X.calm=true) (hu:X.A.units+64 < cLine):fK X (.builtin "min") (Kq X.K):=by
 intro pins s σ H xs us Q I r h
 obtain ⟨l,vs,ds,rfl,hm,hne,q⟩:=h
 obtain ⟨u,rfl,rx⟩:=vals1 r
 cases rx
 obtain ⟨its,rv,pl,hl,cm⟩:=Cu hc hu I hm
 have hd:X.A.in1.handled=none:=I.ok.hd hc
 obtain ⟨o,eo,_⟩:=id pl
 have ll:l < s.heap.objs.size:=Heap.lt_size eo
 have hpos:0 < ds.length:=List.length_pos_iff.mpr hne
 have ev:its.toArray.size=ds.length:=by rw [List.size_toArray,hl]
 refine MU.call (wpAny_pyIter_list pl ?_)
 have I3:Inv X pins σ H { s with heap:=s.heap.push { cls:=.type "list_iterator",data:=.fields #[.ref l,.int 0 0] } }:=I.kept (t':=s.toks) fun b o q=>Heap.get?_push_of_some _ q
 obtain ⟨f0,f1,f2,f3,f4,f5⟩:=I.fpOk (b:=s.heap.objs.size) (Nat.le_refl _) I.fresh
 refine ⟨s.heap.objs.size,_,_,_,_,_,fun i k=>dlt (ds.getD i .non) (ds.getD k .non),rfl,Walks.list hd s.heap.objs.size l (Nat.ne_of_lt ll) its.toArray,⟨⟨_,Heap.get?_push_size _ rfl,rfl,rfl⟩,pl.push _⟩,fun b hb=>?_,⟨s.heap,cm,fun b o e=>⟨?_,Heap.get?_push_of_some _ e⟩⟩,by rw [ev]; exact hpos,fun v h' tk hv kp=>?_⟩
 ·show b < (s.heap.push _).objs.size
  rw [Heap.size_push]
  rcases List.mem_cons.mp hb with rfl | hb
  ·exact Nat.lt_succ_self _
  ·rw [List.mem_singleton.mp hb]
   exact Nat.lt_succ_of_lt ll
 ·exact fun z=>absurd (List.mem_singleton.mp z) (Nat.ne_of_lt (Heap.lt_size e))
 ·have hb:=kI ds (ds.length - 1)
  rw [ev] at hv
  have hle:=(hb _ (Nat.le_refl _)).1
  generalize argBest (fun i k=>dlt (ds.getD i .non) (ds.getD k .non)) (ds.length - 1)=b at hv hb hle
  obtain ⟨hv',_⟩:its.toArray[b]?=some v∧True:=⟨hv,trivial⟩
  rw [List.getElem?_toArray] at hv'
  obtain ⟨x,v',e1,e2,e3,e4,e5,e6⟩:=at3 (i:=b) hm.2.1 rv (by omega)
  rw [hv'] at e2
  cases e2
  refine ⟨x,H,I3.turned (it:=s.heap.objs.size) (fun b o hb e=>kp b o (by simpa using hb) e) f0 f1 f3 f4 f5,e5,q b x (ds.getD b .non) e1 ?_ fun e he=>?_⟩
  ·have:b < ds.length:=by omega
   rw [List.getD_eq_getElem?_getD,List.getElem?_eq_getElem this]
   rfl
  ·obtain ⟨j,hj,ej⟩:=List.getElem_of_mem he
   have:=(hb j (by omega)).2
   rw [List.getD_eq_getElem?_getD,List.getElem?_eq_getElem hj] at this
   rw [← ej]
   exact this
end
end L2
namespace L2
open PySem PySem.Spec PyProof.Rows
abbrev Lk:=List Nat × List Nat
abbrev Stp:=List Lk
def nD (xs:List Nat):D:=.tup (xs.map fun i=>D.int (i:Nat))
def lkD (p:Lk):D:=.tup [nD p.1,nD p.2]
def stD (s:Stp):D:=.tup (s.map lkD)
def sz1 (s:Stp):Nat:=(s.map fun p=>p.1.length).sum
def sz2 (s:Stp):Nat:=(s.map fun p=>p.2.length).sum
def shapes:List (Nat × Nat):=[(0,1),(1,0),(1,1),(1,2),(1,3),(2,1),(3,1)]
def one (i j:Nat) (s:Nat × Nat):Stp:=[(List.range' i s.1,List.range' j s.2)]
def crs (i j:Nat):Stp:=[([i],[j+1]),([i+1],[j])]
def aJ (i j m n:Nat):List Stp:=(shapes.filter fun s=>decide (i+s.1≤m∧j+s.2≤n)).map (one i j)++if i+2≤m∧j+2≤n then [crs i j] else []
theorem step_at {i j m n:Nat} {s:Stp} (h:s∈aJ i j m n):i+sz1 s≤m∧j+sz2 s≤n∧1≤sz1 s+sz2 s:=by
 rcases List.mem_append.mp h with h | h
 ·obtain ⟨p,hp,rfl⟩:=List.mem_map.mp h
  obtain ⟨hm,hc⟩:=List.mem_filter.mp hp
  have hc:=of_decide_eq_true hc
  have h1:1≤p.1+p.2:=(by decide:∀ p∈shapes,1≤p.1+p.2) p hm
  have e1:sz1 (one i j p)=p.1:=by simp [sz1,one]
  have e2:sz2 (one i j p)=p.2:=by simp [sz2,one]
  rw [e1,e2]
  exact ⟨hc.1,hc.2,h1⟩
 ·split at h
  ·rename_i hc
   rw [List.mem_singleton.mp h]
   have e1:sz1 (crs i j)=2:=rfl
   have e2:sz2 (crs i j)=2:=rfl
   rw [e1,e2]
   exact ⟨hc.1,hc.2,by decide⟩
  ·cases h
theorem Gb {a:List Nat}:∀ {b:List Nat},(a.map fun i=>D.int (i:Nat))=(b.map fun i=>D.int (i:Nat))→a=b:=by
 intro b h
 induction a generalizing b with
 | nil =>
  cases b with
  | nil=>rfl
  | cons _ _=>cases h
 | cons x a ih =>
  cases b with
  | nil=>cases h
  | cons y b =>
   rw [List.map_cons,List.map_cons] at h
   injection h with h1 h2
   have:=D.int.inj h1
   rw [ih h2,show x=y by omega]
theorem Dp {a b:List Nat} (h:nD a=nD b):a=b:=Gb (D.tup.inj h)
theorem Gg {a b:Lk} (h:lkD a=lkD b):a=b:=by
 have h:=D.tup.inj h
 injection h with h1 h2
 injection h2 with h2
 exact Prod.ext (Dp h1) (Dp h2)
theorem rG:∀ {a b:Stp},stD a=stD b→a=b
 | [],[],_=>rfl
 | x :: a,y :: b,h=>by
  have h:=D.tup.inj h
  rw [List.map_cons,List.map_cons] at h
  injection h with h1 h2
  rw [Gg h1,rG (congrArg D.tup h2)]
 | [],_ :: _,h=>by cases D.tup.inj h
 | _ :: _,[],h=>by cases D.tup.inj h
abbrev Rst:=Nat→Nat→Int × Option Stp
def tot (cost:Stp→Int) (R:Rst) (i j:Nat) (s:Stp):Int:=cost s+(R (i+sz1 s) (j+sz2 s)).1
def chD (cost:Stp→Int) (R:Rst) (i j:Nat) (s:Stp):D:=.tup [.int (tot cost R i j s),stD s,.tup [.int ((i+sz1 s:Nat):Int),.int ((j+sz2 s:Nat):Int)]]
structure J2 (m n:Nat) (cost:Stp→Int) (R:Rst):Prop where
 nil:∀ i j,i≤m→j≤n→aJ i j m n=[]→R i j=(0,none)
 cons:∀ i j,i≤m→j≤n→aJ i j m n≠[]→∃ s∈aJ i j m n,R i j=(tot cost R i j s,some s)∧∀ s'∈aJ i j m n,dlt (chD cost R i j s') (chD cost R i j s)=false
inductive G4 (R:Rst):Nat→Nat→List Stp→Prop
 | stop {i j:Nat} (h:(R i j).2=none):G4 R i j []
 | go {i j:Nat} {s:Stp} {w:List Stp} (h:(R i j).2=some s) (k:G4 R (i+sz1 s) (j+sz2 s) w):G4 R i j (s :: w)
inductive KPs (K:PySem.W.Frag):List Addr→List (Nat × Nat)→Prop
 | nil:KPs K [] []
 | cons {a:Addr} {p:Nat × Nat} {as:List Addr} {ps:List (Nat × Nat)} (h:KTup K a [.int (p.1:Nat),.int (p.2:Nat)]) (r:KPs K as ps):KPs K (a :: as) (p :: ps)
def yu (K:PySem.W.Frag) (t:Addr) (ps:List (Nat × Nat)):Prop:=∃ as:List Addr,KTup K t (as.map V.ref)∧KPs K as ps
theorem yG {K:PySem.W.Frag} {t:Addr} {as:List Addr} {ps:List (Nat × Nat)} (h:KTup K t (as.map V.ref)) (r:KPs K as ps):yu K t ps:=⟨as,h,r⟩
theorem KPs.len {K:PySem.W.Frag} {as:List Addr} {ps:List (Nat × Nat)} (h:KPs K as ps):as.length=ps.length:=by
 induction h with
 | nil=>rfl
 | cons _ _ ih=>rw [List.length_cons,List.length_cons,ih]
theorem KPs.at_ {K:PySem.W.Frag} {as:List Addr} {ps:List (Nat × Nat)} (h:KPs K as ps) {i:Nat} {a:Addr} {p:Nat × Nat} (ha:as[i]?=some a) (hp:ps[i]?=some p):KTup K a [.int (p.1:Nat),.int (p.2:Nat)]:=by
 induction h generalizing i with
 | nil=>cases ha
 | cons h _ ih =>
  cases i with
  | zero =>
   cases ha
   cases hp
   exact h
  | succ i=>exact ih ha hp
end L2
namespace L2
open PySem PySem.Spec PyProof.Rows
def Mu (H:Hp):V→Prop
 | .str x=>x.length≤1000
 | .non=>True
 | .bl _=>True
 | .int _=>True
 | .ref p=>(∃ xs,H p=some (.lst xs))∨(∃ xs,H p=some (.tup xs))∨∃ kvs,H p=some (.dK kvs)
 | _=>False
end L2
namespace L2
open PySem PySem.Spec PyProof.Rows
def notStar:Expr→Bool
 | .Starred ..=>false
 | _=>true
theorem yF {e:Expr} {es:List Expr} {env:Env} (h:notStar e=true):starEach (e :: es) env=(false,eval e env) :: starEach es env:=by
 cases e <;> first | rfl | cases h
theorem NQ {X:Cx} {e:Expr} {es:List Expr} {te:TE} {t:TA} (ha:PE X e te) (hr:PA X es t) (h:notStar e=true:=by rfl):PA X (e :: es) (FZ te t):=aj ha hr (yF h)
structure QSs (X:Cx) (st:List Stmt) (t:TS):Prop where
 h:PSs X st t
structure QS (X:Cx) (st:Stmt) (t:TS):Prop where
 h:PS X st t
structure QE (X:Cx) (e:Expr) (t:TE):Prop where
 h:PE X e t
structure QA (X:Cx) (es:List Expr) (t:TA):Prop where
 h:PA X es t
theorem g8 {X:Cx} {st:Stmt} {rest:List Stmt} {t u:TS} (h1:QS X st t) (h2:QSs X rest u):QSs X (st :: rest) (KH t u):=⟨aB h1.h h2.h⟩
theorem Jo {X:Cx} {es:List Expr} {t:TA} {pos:Pos} (h:QA X es t):QE X (.List es pos) (Ms t):=⟨cU h.h⟩
theorem Jv {X:Cx}:QA X [] LC:=⟨ao⟩
theorem Af {X:Cx} {e:Expr} {es:List Expr} {te:TE} {t:TA} (ha:QE X e te) (hr:QA X es t) (h:notStar e=true:=by rfl):QA X (e :: es) (FZ te t):=⟨NQ ha.h hr.h h⟩
end L2
namespace L2
open PySem PySem.Spec PyProof.Rows
structure QI (X:Cx) (tg e:Expr) (t:TI):Prop where
 h:PI X tg e t
theorem yJ {X:Cx} {st:Stmt} {t:TS} (h1:QS X st t):QSs X [st] t:=⟨aC h1.h⟩
theorem GD {X:Cx} {tg l:Expr} {tl:TE} (hl:QE X l tl):QI X tg l (El X.K tl):=⟨cZ hl.h⟩
theorem Hs {X:Cx} {tg iter:Expr} {body:List Stmt} {wi:TI} {g:TG} {tb:TS} {pos:Pos} (hp:PassesOwn (model X.prog X.w) X.A X.env X.xe) (hc:X.calm=true) (hi:QI X tg iter wi) (hg:PG X tg g) (hb:QSs X body tb)
  (hs:∀ x,foldedSetIterable iter X.env x=pure x:=by intro _; rfl):QS X (.For tg iter body [] pos) (Mq wi g tb):=⟨cW hp hc hi.h hg hb.h hs⟩
theorem qex {X:Cx} {st:List Stmt} {A:TS→Prop} (h:∃ t,QSs X st t∧A t):∃ t,PSs X st t∧A t:=by
 obtain ⟨t,a,b⟩:=h
 exact ⟨t,a.h,b⟩
end L2
namespace M01
open PySem
structure Cr (n:Nat) (q:S):Prop where
 a:∀ r∈q.1,r.length≤n∧∀ c∈r,isW c=true
 b:q.2.length≤n
 c:∀ c∈q.2,isW c=true
theorem Cr.stp {n:Nat} {q:S} (h:Cr n q) (c:Nat):Cr (n+1) (stp q c):=by
 unfold M01.stp
 split
 ·rename_i hc
  refine ⟨fun r hr=>⟨Nat.le_succ_of_le (h.a r hr).1,(h.a r hr).2⟩,?_,?_⟩
  ·have:=h.b
   simp only [List.length_append,List.length_cons,List.length_nil]
   omega
  ·intro d hd
   rcases List.mem_append.mp hd with z | z
   ·exact h.c d z
   ·have:d=c:=by simpa using z
    rw [this]; exact hc
 ·split
  ·exact ⟨fun r hr=>⟨Nat.le_succ_of_le (h.a r hr).1,(h.a r hr).2⟩,Nat.le_succ_of_le h.b,h.c⟩
  ·refine ⟨fun r hr=>?_,Nat.zero_le _,fun d hd=>by cases hd⟩
   rcases List.mem_append.mp hr with z | z
   ·exact ⟨Nat.le_succ_of_le (h.a r z).1,(h.a r z).2⟩
   ·have:r=q.2:=by simpa using z
    rw [this]; exact ⟨Nat.le_succ_of_le h.b,h.c⟩
theorem Cr.fold:∀ (l:List Nat) {n:Nat} {q:S},Cr n q→Cr (n+l.length) (l.foldl M01.stp q)
 | [],_,_,h=>h
 | c :: l,n,q,h=>by
  have:=Cr.fold l (h.stp c)
  rw [List.length_cons,show n+(l.length+1)=n+1+l.length by omega]
  exact this
theorem Ek {l:List Nat} {r:List Nat} (h:r∈wds l):r.length≤l.length∧∀ c∈r,isW c=true:=by
 have w:Cr (0+l.length) (scn l):=Cr.fold l ⟨fun r hr=>(by cases hr),Nat.le_refl _,fun c hc=>by cases hc⟩
 rw [Nat.zero_add] at w
 unfold wds fn at h
 split at h
 ·exact w.a r h
 ·rcases List.mem_append.mp h with z | z
  ·exact w.a r z
  ·have:r=(scn l).2:=by simpa using z
   rw [this]; exact ⟨w.b,w.c⟩
theorem Ho {c:Nat} (h:isW c=true):c < 128:=by
 unfold isW at h
 simp only [Bool.or_eq_true,decide_eq_true_eq] at h
 omega
end M01
namespace Mine
open PySem L2 PyProof.Rows
def top (i:Nat):Stmt:=PySem.Challenge.pw_twainkeep_k57_shown_of_anything.main.body.getD i (.Pass ⟨0,0,0,0⟩)
abbrev fu:Stmt:=top 1
abbrev fV:Stmt:=top 2
abbrev cM:Stmt:=top 3
abbrev gQ:Stmt:=top 4
abbrev DK:Stmt:=top 6
abbrev jo:Stmt:=top 7
abbrev fD:Stmt:=top 8
abbrev iz:Stmt:=top 9
abbrev cX:Stmt:=top 10
abbrev cA:Stmt:=top 11
abbrev cC:Stmt:=top 12
abbrev gb:Stmt:=top 15
abbrev fZ:Stmt:=top 16
abbrev gA:Stmt:=top 17
abbrev dj:Stmt:=top 18
abbrev bQ:Stmt:=top 19
abbrev bZ:Stmt:=top 20
abbrev jV:Stmt:=top 21
abbrev eG:Stmt:=top 28
abbrev dB:Stmt:=top 29
abbrev cN:Stmt:=top 30
abbrev cG:Stmt:=top 31
abbrev dI:Stmt:=top 32
abbrev d7:Stmt:=top 33
abbrev fG:Stmt:=top 34
abbrev cP:Stmt:=top 35
abbrev gj:Stmt:=top 37
abbrev cu:Stmt:=top 38
abbrev cY:Stmt:=top 39
abbrev qU:Stmt:=top 41
abbrev jP:Stmt:=top 42
abbrev oZ:Stmt:=top 43
abbrev qO:Stmt:=top 44
abbrev jL:Stmt:=top 45
abbrev lu:Stmt:=top 46
abbrev gU:Stmt:=top 47
abbrev lB:Stmt:=top 48
abbrev kZ:Stmt:=top 49
abbrev jM:Stmt:=top 50
abbrev jA:Stmt:=top 51
abbrev pF:Stmt:=top 52
abbrev lC:Stmt:=top 53
abbrev sOn:Stmt:=top 54
abbrev lW:Stmt:=top 55
abbrev jK:Stmt:=top 56
abbrev iJ:Stmt:=top 57
abbrev Bo:Stmt:=top 58
theorem aU {H H':Hp} {l:Addr} {o:HO} (s:Same H H') (h:H l=none):Same H (upd H' l o):=fun c u z=>by
 rw [aM (aF z h)]
 exact s c u z
theorem bB {α:Type} {xs:List α} {i:Nat} (h:i < xs.length):xs[i]?=some xs[i]:=List.getElem?_eq_getElem h
theorem take_one {α:Type} {xs:List α} {i:Nat} {x:α} (h:xs[i]?=some x):xs.take (i+1)=xs.take i++[x]:=by rw [List.take_add_one,h]; rfl
theorem DN {xs:List Str} {i:Nat} (h:i < xs.length):(xs.map V.str)[i]?=some (.str xs[i]):=by rw [List.getElem?_map,bB h]; rfl
theorem int_at {xs:List Int} {i:Nat} (h:i < xs.length):(xs.map V.int)[i]?=some (.int (xs.getD i 0)):=by rw [List.getElem?_map,bB h,List.getD_eq_getElem?_getD,bB h]; rfl
def cj (b:Addr) (H:Hp):Prop:=∃ (ns:List Int) (s:Int),H b=some (.lst ((ns++[s]).map V.int))∧ns.length≤64∧0≤s∧s < 2305843009213693951
theorem cj.same {b:Addr} {H H':Hp} (h:cj b H) (s:Same H H'):cj b H':=by
 obtain ⟨ns,x,e,r⟩:=h
 exact ⟨ns,x,s _ _ e,r⟩
theorem cj.ne {b c:Addr} {H:Hp} (h:cj b H) (hc:H c=none):c≠b:=by
 obtain ⟨ns,x,e,r⟩:=h
 exact (aF e hc).symm
def eX (b:Addr) (H H':Hp):Prop:=∀ c o,H c=some o→c≠b→H' c=some o
theorem eX.trans {b:Addr} {H H1 H2:Hp} (a:eX b H H1) (c:eX b H1 H2):eX b H H2:=fun d o e h=>c d o (a d o e h) h
theorem eX.of {b:Addr} {H H1:Hp} (s:Same H H1):eX b H H1:=fun c o e _=>s c o e
theorem eX.tup {b:Addr} {H H':Hp} (hp:cj b H) (o:eX b H H'):∀ (c:Addr) (vs:List V),H c=some (.tup vs)→H' c=some (.tup vs):=fun c vs e=>by
 obtain ⟨ns,x,e1,r⟩:=hp
 refine o c _ e fun z=>?_
 rw [z,e1] at e
 cases e
theorem eX.none {b c:Addr} {H H':Hp} (o:eX b H H') (hp':cj b H') (hc:H' c=none):H c=none:=by
 cases e:H c with
 | none=>rfl
 | some u =>
  have:=o c u e (hp'.ne hc)
  rw [hc] at this
  cases this
def jQ:Sp:=fun vs H Q _=>∃ (b:Addr) (m:Int),vs=[.ref b,.int m]∧cj b H∧0 < m∧m < 2 ^ 64∧∀ (r:Int) (H':Hp),cj b H'→eX b H H'→0≤r→r < m→Q (.int r) H'
def wz (K:PySem.W.Frag):Sp:=fun vs H Q _=>∃ (a:Addr) (ms:List Int),vs=[.ref a]∧SqL K H a (ms.map V.int)∧ms.length≤63∧∀ (l:Addr) (H':Hp),Same H H'→cj l H'→Q (.ref l) H'
theorem NP {α:Type} (x:α) (r:List α):ixN (x :: r).length 0=some 0:=by
 unfold ixN
 rw [if_pos (Int.le_refl 0),if_pos (by simp)]
 rfl
theorem JM (n:Nat):seqIndex? 0 (n+1)=some 0:=by
 unfold seqIndex?
 simp
section
variable {P:Program} {w:World} {K:PySem.W.Frag} {mg:Str→Option Value} {base:Heap}
theorem Ds:aP ["_law_pot", "_law_many", "_law_digit"] ["_law_pot", "_law_many"] (au qU):=⟨rfl,rfl,rfl,by decide +kernel,rfl,by decide +kernel,by decide +kernel⟩
theorem Ht (h:Has K mg "_law_next" qU ["_law_pot", "_law_many"]) (m_len:mg "len" = none):Cal P w K mg base "_law_next" 1 ["_law_pot", "_law_many"] jQ:=by
 refine h.mk' Ds (fun vs H Q E hs=>?_) (fun f cdv A outer s H vs Q E hr hs=>?_)
 ·obtain ⟨b,m,rfl,_⟩:=hs
  rfl
 obtain ⟨b,m,rfl,⟨ns,s,e,hl,s0,s1⟩,m0,m1,k⟩:=hs
 refine ⟨_,(aB (dW (aY BK (aG aQ rfl m_len PySem.boot_len (aj (pv 0) ao)) aA (bG _))
   (aB (aW (i:=2) Ds.nd rfl (Or.inl rfl) (aX oX (bA bR (pv 0) aA (fun _ _=>rfl)) (pv 1)))
  (aB (jO (aX tM (bA bR (pv 0) aA (fun _ _=>rfl)) (pv 1)) (xY (pv 0) aA set_list))
  (aB (dW (aY gG (bA bR (pv 0) aA (fun _ _=>rfl)) aA (bG _))
   (aC (eN (iw PySem.F.plainAttrs_list PySem.F.slot_list_pop PySem.F.type_list_pop Ax (pv 0) (aj aA ao))))
   bK)
  (aC (aR (pv 2))))))
   bK)
  (aB (jO (aX oX (aX bI (aX jj (bA bR (pv 0) aA (fun _ _=>rfl)) aA) aA) aA) (xY (pv 0) aA set_list))
  (aC (aR (aX oX (aX tM (bA bR (pv 0) aA (fun _ _=>rfl)) aA) (pv 1)))))),?_⟩
 cases ns with
 | nil =>
  have e0:H b=some (.lst [.int s]):=e
  have hz:∀ x:Int,atI [V.int x] 0=some (.int x):=fun x=>cD _ _
  refine ⟨_,rfl,b,_,rfl,.inl (SqL.of e0),_,_,rfl,rfl,_,rfl,qM ?_⟩
  refine ⟨_,rfl,b,_,_,_,rfl,rfl,SqL.of e0,hz s,_,_,rfl,rfl,.inl ⟨by omega,by omega⟩,_,_,rfl,rfl,_,_,rfl,rfl,by show (0:Int) < 2305843009213693951; decide,_,rfl,b,_,_,0,rfl,rfl,e0,rfl,?_⟩
  have hr:=Int.emod_nonneg (s * 3935559000370003845+2691343689449507681) (show (2305843009213693951:Int)≠0 by decide)
  have hr2:=Int.emod_lt_of_pos (s * 3935559000370003845+2691343689449507681) (show (0:Int) < 2305843009213693951 by decide)
  have e3:(upd H b (.lst ([V.int s].set 0 (.int ((s * 3935559000370003845+2691343689449507681) % 2305843009213693951))))) b=some (.lst [.int ((s * 3935559000370003845+2691343689449507681) % 2305843009213693951)]):=ak
  have o3:eX b H (upd H b (.lst ([V.int s].set 0 (.int ((s * 3935559000370003845+2691343689449507681) % 2305843009213693951))))):=fun c o z h=>by
   rw [aM h]
   exact z
  generalize upd H b (.lst ([V.int s].set 0 (.int ((s * 3935559000370003845+2691343689449507681) % 2305843009213693951))))=H3 at e3 o3
  generalize (s * 3935559000370003845+2691343689449507681) % 2305843009213693951=s' at e3 hr hr2
  refine ⟨_,rfl,b,_,_,_,rfl,rfl,SqL.of e3,hz s',_,_,rfl,rfl,⟨by decide,by decide⟩,_,rfl,_,_,rfl,rfl,m0,?_⟩
  exact k _ H3 ⟨[],s',e3,by decide,hr,hr2⟩ o3 (Int.emod_nonneg _ (by omega)) (Int.emod_lt_of_pos _ m0)
 | cons x r =>
  have e0:H b=some (.lst (.int x :: (r++[s]).map V.int)):=e
  have hz:∀ (x:Int) (q:List V),atI (V.int x :: q) 0=some (.int x):=fun x q=>cD _ _
  have hz2:=NP (V.int x) ((r++[s]).map V.int)
  have hlen:1 < (V.int x :: (r++[s]).map V.int).length:=by simp
  have hlr:r.length < 64:=by have:=hl; simp at this; omega
  refine ⟨_,rfl,b,_,rfl,.inl (SqL.of e0),_,_,rfl,rfl,_,rfl,?_⟩
  refine dR (fun _=>?_) (fun z=>absurd (decide_eq_true (by omega)) z)
  refine ⟨_,rfl,b,_,_,_,rfl,rfl,SqL.of e0,hz x _,_,rfl,_,_,rfl,rfl,m0,?_⟩
  have hr:=Int.emod_nonneg x (show m≠0 by omega)
  have hr2:=Int.emod_lt_of_pos x m0
  refine gN ⟨_,rfl,b,_,_,_,rfl,rfl,SqL.of e0,hz x _,_,rfl,_,_,rfl,rfl,⟨m0,m1⟩,_,rfl,b,_,_,0,rfl,rfl,e0,hz2,?_⟩
  have e3:(upd H b (.lst ((V.int x :: (r++[s]).map V.int).set 0 (.int (x / m))))) b=some (.lst (.int (x / m) :: (r++[s]).map V.int)):=ak
  have o3:eX b H (upd H b (.lst ((V.int x :: (r++[s]).map V.int).set 0 (.int (x / m))))):=fun c o z h=>by
   rw [aM h]
   exact z
  generalize upd H b (.lst ((V.int x :: (r++[s]).map V.int).set 0 (.int (x / m))))=H3 at e3 o3
  generalize x / m=y at e3
  refine ⟨_,rfl,b,_,_,_,rfl,rfl,SqL.of e3,hz y _,rfl,_,rfl,?_⟩
  refine dR (fun _=>?_) (fun _=>?_)
  ·refine ⟨_,rfl,.inl ⟨rfl,_,SqL.of e3⟩,b,_,0,0,_,rfl,rfl,e3,by decide,by decide,JM _,rfl,?_⟩
   refine ⟨_,rfl,k _ _ ⟨r,s,ak,by omega,s0,s1⟩ (fun c o z h=>?_) hr hr2⟩
   rw [aM h]
   exact o3 c o z h
  ·exact ⟨_,rfl,k _ H3 ⟨y :: r,s,e3,by simp; omega,s0,s1⟩ o3 hr hr2⟩
theorem scState:aP ["_law_script", "_law_seed", "_law_cell"] ["_law_script"] (au jP):=⟨rfl,rfl,rfl,by decide +kernel,rfl,by decide +kernel,by decide +kernel⟩
theorem Gy (h:Has K mg "_law_state" jP ["_law_script"]) (m_abs:mg "abs" = none):Cal P w K mg base "_law_state" 1 ["_law_script"] (wz K):=by
 refine h.mk' scState (fun vs H Q E hs=>?_) (fun f cdv A outer s H vs Q E hr hs=>?_)
 ·obtain ⟨a,ms,rfl,_⟩:=hs
  rfl
 obtain ⟨a,ms,rfl,hS,h63,k⟩:=hs
 refine ⟨_,(aB (aW (i:=1) scState.nd rfl (Or.inl rfl) aA)
  (aB (cW PassesOwn.never rfl (cZ (eV nM (pv 0) fY (gq aA))) (aD (i:=2) scState.nd rfl (Or.inl rfl))
   (aC (aW (i:=1) scState.nd rfl (Or.inl rfl) (aX oX (aX bI (aX bI (aX jj (pv 1) aA) (aX oX (pv 2) (aX CZ aA aA))) aA) aA))))
  (aC (aR (aX DY (aZ ["_law_script", "_law_seed", "_law_cell"] (au jP) ["_law_cell"] [none] rfl rfl rfl (cZ (eV nM (pv 0) fY (gq aA))) rfl (by decide +kernel) (by decide +kernel) (by decide +kernel) (by decide +kernel) (hg:=fun cl C s H ex pn E=>(aD (i:=0) (by decide +kernel:(["_law_cell"]:List Str).Nodup) rfl (Or.inl rfl))) (ht:=fun cl C s H ex pn E=>(jc (aY K8 (aG kO rfl m_abs boot_abs (aj (pv 0) ao)) (aX CZ aA aA) (bG _)))) (he:=fun cl C s H ex pn E=>(aG kO rfl m_abs boot_abs (aj (pv 0) ao)))) (cU (aj (pv 1) ao))))))),?_⟩
 obtain ⟨m2,em2,hm2⟩:=yU ms none (some 63)
 refine gN ⟨_,rfl,_,rfl,a,_,rfl,hS,fun lx hlx=>?_⟩
 rw [em2]
 have s2:=aq hlx (.lst (m2.map V.int))
 have e2:(upd H lx (.lst (m2.map V.int))) lx=some (.lst (m2.map V.int)):=ak
 generalize upd H lx (.lst (m2.map V.int))=H2 at s2 e2
 refine ⟨lx,rfl,⟨_,SqL.of e2⟩,?_⟩
 refine ji (K:=K) (a:=lx) (xs:=m2.map V.int) (fun i σ H3=>∃ (v2:Option V) (s:Int),σ=[some (.ref a),some (.int s),v2]∧H3=H2∧0≤s∧s < 2305843009213693951) ⟨_,7,rfl,rfl,by decide,by decide⟩ ?_ ?_ ?_
 ·rintro i σ H3 _ ⟨_,_,_,rfl,_⟩
  exact SqL.of e2
 ·rintro i y σ H3 hi ⟨v2,s,rfl,rfl,a0,a1⟩
  obtain ⟨c,rfl⟩:=uZ hi
  refine gN ⟨_,rfl,_,_,rfl,rfl,.inl ⟨by omega,by omega⟩,_,rfl,_,_,rfl,rfl,⟨by decide,by decide,by decide⟩,_,_,rfl,rfl,by show (0:Int) < 10 ^ 40; decide,_,_,rfl,rfl,_,_,rfl,rfl,_,_,rfl,rfl,by show (0:Int) < 2305843009213693951; decide,?_⟩
  exact ⟨_,_,rfl,rfl,Int.emod_nonneg _ (by decide),Int.emod_lt_of_pos _ (by decide)⟩
 ·rintro σ H3 ⟨v2,s,rfl,rfl,a0,a1⟩
  refine ⟨_,rfl,_,rfl,a,_,rfl,s2.seq hS,fun ly hly=>?_⟩
  rw [em2]
  have s3:=s2.trans (aq hly (.lst (m2.map V.int)))
  have e3:(upd H3 ly (.lst (m2.map V.int))) ly=some (.lst (m2.map V.int)):=ak
  generalize upd H3 ly (.lst (m2.map V.int))=H4 at s3 e3
  refine ⟨ly,rfl,⟨_,SqL.of e3⟩,fun lc hlc=>?_⟩
  refine bF (J:=Itl K ly) (l:=lc) m2.length (fun i σ' H'=>∃ (v:Option V) (ns:List Int),σ'=[v]∧Same H4 H'∧H' lc=some (.lst (ns.map V.int))∧ns.length≤i) ⟨none,[],rfl,aq hlc _,ak,Nat.le_refl _⟩ ?_ ?_
  ·rintro σ' H5 ⟨v,ns,rfl,s5,e5,hn⟩
   refine ⟨⟨_,SqL.of (s5 _ _ e3),by rw [List.length_map]; exact Nat.le_refl _⟩,?_⟩
   refine ⟨_,rfl,smn 1,fun l6 hl6=>?_⟩
   have s6:=aq hl6 (.lst [.int s])
   refine ⟨lc,l6,_,_,rfl,rfl,s6 _ _ e5,ak,?_,fun l7 hl7=>?_⟩
   ·rw [List.length_map]
    exact small (by simp; omega)
   ·refine k l7 _ (((s3.trans s5).trans s6).trans (aq hl7 _)) ⟨ns,s,?_,by omega,a0,a1⟩
    rw [ak,List.map_append]
    rfl
  ·rintro i σ' H5 hi ⟨v,ns,rfl,s5,e5,hn⟩
   have hat:(m2.map V.int)[i]?=some (.int m2[i]):=by rw [List.getElem?_map,bB hi]; rfl
   refine ⟨⟨_,_,SqL.of (s5 _ _ e3),hat⟩,?_⟩
   rintro y H6 ⟨rfl,hy⟩
   have ey:y=.int m2[i]:=Option.some.inj ((hy _ (SqL.of (s5 _ _ e3))).symm.trans hat)
   subst ey
   refine gN ⟨_,rfl,_,rfl,_,_,rfl,rfl,⟨by decide,by decide,by decide⟩,_,_,rfl,rfl,_,rfl,?_⟩
   refine dR (fun _=>?_) (fun _=>?_)
   ·refine ⟨_,rfl,_,rfl,_,e5,aH (by rw [List.length_map]; omega),_,ns++[if m2[i] < 0 then -m2[i] else m2[i]],rfl,aU s5 hlc,?_,by rw [List.length_append,List.length_singleton]; omega⟩
    rw [ak,List.map_append]
    rfl
   ·exact ⟨_,ns,rfl,s5,e5,by omega⟩
end
def Av:Sp:=fun vs H Q _=>∃ c:Nat,vs=[.str ⟨#[c]⟩]∧Q (.bl (M01.isW c)) H
def rR:Sp:=fun vs H Q _=>∃ x:Str,vs=[.str x]∧x.length≤1000∧∀ (t:Addr) (H':Hp),Same H H'→H' t=some (.tup (((M01.wds x.cps.toList).map fun r=>(⟨r.toArray⟩:Str)).map V.str))→Q (.ref t) H'
section
open M01
variable {P:Program} {w:World} {K:PySem.W.Frag} {mg:Str→Option Value} {base:Heap}
theorem K6:aP ["sign"] ["sign"] (au DK):=⟨rfl,rfl,rfl,by decide +kernel,rfl,by decide +kernel,by decide +kernel⟩
theorem IV {c:Nat} {σ:L2.St} {H:Hp} {Q:VK} (h0:σ[0]?=some (some (.str ⟨#[c]⟩))) (q:Q (.bl (isW c)) H) :
  KZ (pB Bt Bt (tC (.str "a")) (vo 0) (tC (.str "z"))) (KZ (pB Bt Bt (tC (.str "A")) (vo 0) (tC (.str "Z"))) (pB Bt Bt (tC (.str "0")) (vo 0) (tC (.str "9")))) σ H Q:=by
 unfold isW at q
 refine jC (a:=97) (b:=122) (by decide +kernel) (by decide +kernel) h0 ⟨_,rfl,?_⟩
 refine dR (fun h=>?_) (fun h=>?_)
 ·rw [h] at q
  exact q
 ·have h':decide (97≤c∧c≤122)=false:=by simpa using h
  rw [h',Bool.false_or] at q
  refine jC (a:=65) (b:=90) (by decide +kernel) (by decide +kernel) h0 ⟨_,rfl,?_⟩
  refine dR (fun g=>?_) (fun g=>?_)
  ·rw [g] at q
   exact q
  ·have g':decide (65≤c∧c≤90)=false:=by simpa using g
   rw [g',Bool.false_or] at q
   exact jC (a:=48) (b:=57) (by decide +kernel) (by decide +kernel) h0 q
theorem JD {f:Addr} {fd:FuncData} (F:Fun K "is_word_sign" "is_word_sign" DK f fd):n8 P w K mg base CX0 1 f fd ["sign"] Av:=by
 refine F.ok K6 (fun vs H Q E h=>?_) (fun cdv A outer s H vs Q E hr h=>?_)
 ·obtain ⟨c,rfl,_⟩:=h
  rfl
 obtain ⟨c,rfl,q⟩:=h
 refine ⟨_,aC (aR (Iv (nJ mO mO bL (pv 0) bL) (Iv (nJ mO mO bL (pv 0) bL) (gY (nJ mO mO bL (pv 0) bL))))),?_⟩
 exact IV rfl q
theorem wI:aP ["text", "spaced"] ["text"] (au jo):=⟨rfl,rfl,rfl,by decide +kernel,rfl,by decide +kernel,by decide +kernel⟩
theorem Bk {f fW:Addr} {fd fdW:FuncData} (F:Fun K "words_of" "words_of" jo f fd) (GW:n8 P w K mg base CX0 1 fW fdW ["sign"] Av) (bW:Binds K fdW ["sign"] []) (kW:PySem.W.keepIn K (.ref fW)=true) (mW:mg "is_word_sign" = some (.ref fW)) (mtuple:mg "tuple" = none) :
  n8 P w K mg base CX0 2 f fd ["text"] rR:=by
 refine F.ok wI (fun vs H Q E h=>?_) (fun cdv A outer s H vs Q E hr h=>?_)
 ·obtain ⟨x,rfl,_⟩:=h
  rfl
 obtain ⟨x,rfl,hx,k⟩:=h
 refine ⟨_,aB (aW (i:=1) wI.nd rfl (Or.inl rfl) (iw PySem.F.plainAttrs_str PySem.F.slot_str_join PySem.F.type_str_join yH bL (aj
   (aZ ["text", "spaced"] (au jo) ["sign"] [none] rfl rfl rfl (yp (pv 0)) rfl (by decide +kernel) (by decide +kernel) (by decide +kernel) (by decide +kernel)
    (fun cl C s H ex pn E=>aD (i:=0) (by decide +kernel:(["sign"]:List Str).Nodup) rfl (Or.inl rfl)) (fun cl C s H ex pn E=>bh)
    (fun cl C s H ex pn E=>tQ (iZ (Aa GW hr rfl mW kW bW .nil Hr (aj (pv 0) ao))) (pv 0) bL)) ao)))
  (aC (aR (bV bM rfl mtuple boot_tuple (aj (qC PySem.F.plainAttrs_str PySem.F.slot_str_split PySem.F.type_str_split Bv (pv 1)) ao)))),?_⟩
 have hlen:x.cps.toList.length=x.length:=by simp [Str.length]
 refine ⟨rfl,_,rfl,x,rfl,fun l hl=>?_⟩
 refine bF (J:=Its x) (l:=l) x.cps.size (fun i σ' H'=>∃ v:Option V,σ'=[v]∧H'=upd H l (.lst ((x.cps.toList.take i).map fun c=>V.str ⟨#[bl c]⟩))) ⟨none,rfl,rfl⟩ ?_ ?_
 ·rintro σ' H' ⟨v,rfl,rfl⟩
  have e:x.cps.toList.take x.cps.size=x.cps.toList:=by rw [← Array.length_toList]; exact List.take_length
  rw [e]
  have em:(x.cps.toList.map fun c=>V.str ⟨#[bl c]⟩)=((x.cps.toList.map bl).map fun c=>(⟨#[c]⟩:Str)).map V.str:=by
   rw [List.map_map,List.map_map]
   rfl
  rw [em]
  refine ⟨Nat.le_refl _,_,l,(x.cps.toList.map bl).map (fun c=>(⟨#[c]⟩:Str)),rfl,rfl,SqL.of ak,qx (by decide +kernel) _ (by rw [List.length_map,hlen]; omega),?_⟩
  have ej:∀ y:Str,y=⟨#[]⟩→Str.join y ((x.cps.toList.map bl).map fun c=>(⟨#[c]⟩:Str))=⟨(x.cps.toList.map bl).toArray⟩:=fun y hy=>by
   subst hy
   exact join_ones _
  rw [ej _ (by decide +kernel)]
  refine ⟨_,rfl,rfl,_,rfl,rfl,?_,fun l2 hl2=>?_⟩
  ·show (x.cps.toList.map bl).toArray.size≤100000
   rw [List.size_toArray,List.length_map,hlen]
   omega
  ·rw [wY]
   refine ⟨l2,_,rfl,.inl ⟨SqL.of ak,fun t ht=>?_⟩⟩
   exact k t _ ((aq hl _).trans ((aq hl2 _).trans (aq ht _))) ak
 ·rintro i σ' H' hi ⟨v,rfl,rfl⟩
  refine ⟨hi,?_⟩
  rintro y H'' ⟨rfl,c,hc,rfl⟩
  have ht:x.cps.toList.take (i+1)=x.cps.toList.take i++[c]:=by
   rw [List.take_add_one]
   have hc':x.cps.toList[i]?=some c:=by simpa using hc
   rw [hc']
   rfl
  have fin:∃ ys,(upd H l (.lst ((x.cps.toList.take i).map fun c=>V.str ⟨#[bl c]⟩))) l=some (.lst ys)∧ys.length < sizeLine ∧
    ∃ v1:Option V,([v].set 0 (some (V.str ⟨#[c]⟩)):L2.St)=[v1]∧upd (upd H l (.lst ((x.cps.toList.take i).map fun c=>V.str ⟨#[bl c]⟩))) l (.lst (ys++[V.str ⟨#[bl c]⟩]))=upd H l (.lst ((x.cps.toList.take (i+1)).map fun c=>V.str ⟨#[bl c]⟩)):=by
   refine ⟨_,ak,?_,_,rfl,?_⟩
   ·rw [List.length_map,List.length_take]
    have:x.cps.size=x.length:=rfl
    exact Nat.lt_of_le_of_lt (Nat.min_le_left _ _) (aH (by omega))
   ·rw [yW,ht,List.map_append]
    rfl
  refine gN (jy (gB ?_))
  refine ⟨_,rfl,c,rfl,_,rfl,?_⟩
  refine dR (fun h=>?_) (fun h=>?_)
  ·refine ⟨_,rfl,?_⟩
   have e:bl c=c:=by unfold bl; rw [if_pos h]
   rw [e] at fin
   exact fin
  ·have e:bl c=32:=by unfold bl; rw [if_neg h]
   rw [e] at fin
   exact fin
end
section
variable {P:Program} {w:World} {K:PySem.W.Frag} {mg:Str→Option Value} {base:Heap}
theorem Ld (h:Has K mg "is_word_sign" DK ["sign"]):Cal P w K mg base "is_word_sign" 1 ["sign"] Av:=h.cal fun f fd F _ _=>JD F
theorem Fl (h:Has K mg "words_of" jo ["text"]) (C_isw:Cal P w K mg base "is_word_sign" 1 ["sign"] Av) (m_tuple:mg "tuple" = none):Cal P w K mg base "words_of" 2 ["text"] rR:=by
 obtain ⟨fT,fdT,GT,bT,kT,mT⟩:=C_isw.ex
 exact h.cal fun f fd F _ _=>Bk F GT bT kT mT m_tuple
end
abbrev qN (r:List Nat):Str:=⟨(r.map lo1).toArray⟩
def xq:Sp:=fun vs H Q _=>∃ x:Str,vs=[.str x]∧x.length≤1000∧∀ (t:Addr) (H':Hp),Same H H'→H' t=some (.tup (((M01.wds x.cps.toList).map qN).map V.str))→Q (.ref t) H'
section
open M01
variable {P:Program} {w:World} {K:PySem.W.Frag} {mg:Str→Option Value} {base:Heap}
theorem mR {ws:List (List Nat)} {i:Nat} (hi:i < ws.length):((ws.take (i+1)).map qN).map V.str=((ws.take i).map qN).map V.str++[V.str (qN ws[i])]:=by
 rw [List.take_add_one,List.getElem?_eq_getElem hi,List.map_append,List.map_append]
 rfl
theorem Eb {ws:List (List Nat)} {i:Nat} (hi:i < ws.length):((ws.map fun r=>(⟨r.toArray⟩:Str)).map V.str)[i]?=some (V.str ⟨ws[i].toArray⟩):=by
 rw [List.getElem?_map,List.getElem?_map,List.getElem?_eq_getElem hi]
 rfl
theorem lens (x:Str):x.cps.toList.length=x.length:=by simp [Str.length]
theorem yV:aP ["text"] ["text"] (au fD):=⟨rfl,rfl,rfl,by decide +kernel,rfl,by decide +kernel,by decide +kernel⟩
theorem Gf (h:Has K mg "cores_of" fD ["text"]) (C_words:Cal P w K mg base "words_of" 2 ["text"] rR) (m_tuple:mg "tuple" = none):Cal P w K mg base "cores_of" 3 ["text"] xq:=by
 refine h.mk' yV (fun vs H Q E hs=>?_) (fun f cdv A outer s H vs Q E hr hs=>?_)
 ·obtain ⟨x,rfl,_⟩:=hs
  rfl
 obtain ⟨x,rfl,hx,k⟩:=hs
 refine ⟨_,(aC (aR (bV bM rfl m_tuple boot_tuple (aj (aZ ["text"] (au fD) ["word"] [none] rfl rfl rfl (cI (aK C_words hr (by decide) rfl (aj (pv 0) ao))) rfl (by decide +kernel) (by decide +kernel) (by decide +kernel) (by decide +kernel) (hg:=fun cl C s H ex pn E=>(aD (i:=0) (by decide +kernel:(["word"]:List Str).Nodup) rfl (Or.inl rfl))) (ht:=fun cl C s H ex pn E=>bh) (he:=fun cl C s H ex pn E=>(GK (K:=K) rfl PySem.F.plainAttrs_str PySem.F.slot_str_lower PySem.F.type_str_lower tW (pv 0)))) ao)))),?_⟩
 refine ⟨_,rfl,x,rfl,hx,fun t H1 s1 e1=>?_⟩
 generalize hws:wds x.cps.toList=ws at e1 k
 have hwl:ws.length≤1000:=by
  have:=Ed x.cps.toList
  rw [hws,lens] at this
  omega
 have hmem:∀ r∈ws,r.length≤1000∧∀ c∈r,isW c=true:=fun r hr=>by
  rw [← hws] at hr
  have:=Ek hr
  rw [lens] at this
  exact ⟨by omega,this.2⟩
 refine ⟨t,rfl,⟨_,SqT.of e1⟩,fun l hl=>?_⟩
 have ntl:t≠l:=aF e1 hl
 refine bF (J:=Itt K t) (l:=l) ws.length (fun i σ' H'=>∃ v:Option V,σ'=[v]∧H'=upd H1 l (.lst (((ws.take i).map qN).map V.str))) ⟨none,rfl,rfl⟩ ?_ ?_
 ·rintro σ' H' ⟨v,rfl,rfl⟩
  refine ⟨⟨_,SqT.of ((aM ntl).trans e1),by simp⟩,l,_,rfl,.inl ⟨SqL.of ak,fun t2 ht2=>?_⟩⟩
  refine k t2 _ (s1.trans ((aq hl _).trans (aq ht2 _))) ?_
  rw [ak,List.take_length]
 ·rintro i σ' H' hi ⟨v,rfl,rfl⟩
  have ht:(upd H1 l (.lst (((ws.take i).map qN).map V.str))) t=some (.tup ((ws.map fun r=>(⟨r.toArray⟩:Str)).map V.str)):=(aM ntl).trans e1
  refine ⟨⟨_,_,SqT.of ht,Eb hi⟩,?_⟩
  rintro y H'' ⟨rfl,hy⟩
  have ey:y=V.str ⟨ws[i].toArray⟩:=Option.some.inj ((hy _ (SqT.of ht)).symm.trans (Eb hi))
  subst ey
  have hm:=hmem ws[i] (List.getElem_mem hi)
  refine gN (jy (gB ?_))
  refine ⟨_,rfl,rfl,ws[i],rfl,rfl,fun c hc=>Ho (hm.2 c hc),by omega,?_⟩
  refine ⟨_,ak,?_,_,rfl,?_⟩
  ·rw [List.length_map,List.length_map,List.length_take]
   exact aH (by omega)
  ·rw [yW,mR hi]
end
def aV (xs:List Str):List Str:=xs.flatMap fun x=>(M01.wds x.cps.toList).map qN
def Hh (kvs:List (Key × V)) (cs:List Str):Prop:=∀ c:Str,(j9 kvs (Sum.inr c)).isSome=true↔c∈cs
def zU:Sp:=fun vs H Q _=>∃ (q:Addr) (xs:List Str),vs=[.ref q]∧H q=some (.tup (xs.map V.str))∧xs.length≤100∧(∀ x∈xs,x.length≤1000) ∧
 ∀ (d:Addr) (kvs:List (Key × V)) (H':Hp),Same H H'→H' d=some (.dK kvs)→Hh kvs (aV xs)→Q (.ref d) H'
section
open M01
variable {P:Program} {w:World} {K:PySem.W.Frag} {mg:Str→Option Value} {base:Heap}
theorem Hh.put {kvs:List (Key × V)} {cs:List Str} {c:Str} {v:V} (h:Hh kvs cs):Hh (putK kvs (Sum.inr c) v) (cs++[c]):=by
 intro e
 rw [m7]
 by_cases z:(Sum.inr e:Key)=Sum.inr c
 ·rw [if_pos z]
  cases z
  exact ⟨fun _=>List.mem_append.mpr (.inr (List.mem_singleton.mpr rfl)),fun _=>rfl⟩
 ·rw [if_neg z,h e,List.mem_append,List.mem_singleton]
  exact ⟨.inl,fun t=>t.elim id fun t=>absurd (congrArg Sum.inr t) z⟩
theorem Fb {kvs:List (Key × V)} {k:Key} {v:V}:(putK kvs k v).length≤kvs.length+1:=iY [(k,v)] kvs
theorem rD {xs:List Str} {i:Nat} (hi:i < xs.length):aV (xs.take (i+1))=aV (xs.take i)++(M01.wds xs[i].cps.toList).map qN:=by
 unfold aV
 rw [List.take_add_one,List.getElem?_eq_getElem hi,List.flatMap_append]
 simp
theorem fJ:aP ["texts", "cores", "text", "core"] ["texts"] (au cX):=⟨rfl,rfl,rfl,by decide +kernel,rfl,by decide +kernel,by decide +kernel⟩
theorem nR (h:Has K mg "cores_among" cX ["texts"]) (C_cores:Cal P w K mg base "cores_of" 3 ["text"] xq):Cal P w K mg base "cores_among" 4 ["texts"] zU:=by
 refine h.mk' fJ (fun vs H Q E hs=>?_) (fun f cdv A outer s H vs Q E hr hs=>?_)
 ·obtain ⟨q,xs,rfl,_⟩:=hs
  rfl
 obtain ⟨q,xs,rfl,hq,hz,hxs,k⟩:=hs
 refine ⟨_,(aB (aW (i:=1) fJ.nd rfl (Or.inl rfl) tL)
  (aB (cW PassesOwn.never rfl (cI (pv 0)) (aD (i:=2) fJ.nd rfl (Or.inl rfl))
   (aC (cW PassesOwn.never rfl (cI (aK C_cores hr (by decide) rfl (aj (pv 2) ao))) (aD (i:=3) fJ.nd rfl (Or.inl rfl))
   (aC (yP (zK hr) (pv 1) (pv 3) gn rfl)))))
  (aC (aR (pv 1))))),?_⟩
 refine fun d hd=>?_
 have sp:∀ {H2:Hp} {o:HO},Same H H2→Same H (upd H2 d o):=fun s c o z=>by
  rw [aM (aF z hd)]
  exact s c o z
 refine ⟨_,rfl,q,rfl,⟨_,SqT.of (aq hd _ _ _ hq)⟩,?_⟩
 refine jF (K:=K) (a:=q) (xs:=xs.map V.str) (fun i σ H2=>∃ (v2 v3:Option V) (kvs:List (Key × V)),σ=[some (.ref q),some (.ref d),v2,v3]∧Same H H2∧H2 d=some (.dK kvs)∧kvs.length≤1000 * i∧Hh kvs (aV (xs.take i)))
  ⟨_,_,[],rfl,aq hd _,ak,Nat.zero_le _,fun c=>⟨(fun z=>by cases z),(fun z=>by cases z)⟩⟩ ?_ ?_ ?_
 ·rintro i σ H2 _ ⟨v2,v3,kvs,_,s2,_⟩
  exact SqT.of (s2 _ _ hq)
 ·rintro i y σ H2 hi ⟨v2,v3,kvs,rfl,s2,ed,hk,hd2⟩
  have hil:i < xs.length:=by
   have:=(List.getElem?_eq_some_iff.mp hi).1
   simpa using this
  have ey:y=V.str xs[i]:=by
   rw [List.getElem?_map,List.getElem?_eq_getElem hil] at hi
   exact (Option.some.inj hi).symm
  subst ey
  have hxl:=hxs xs[i] (List.getElem_mem hil)
  refine ⟨_,rfl,xs[i],rfl,hxl,fun t H3 s3 e3=>?_⟩
  have hcs:=rD hil
  generalize hws:wds xs[i].cps.toList=ws at e3 hcs
  have hwl:ws.length≤1000:=by
   have:=Ed xs[i].cps.toList
   rw [hws,lens] at this
   omega
  refine ⟨t,rfl,⟨_,SqT.of e3⟩,?_⟩
  refine jF (K:=K) (a:=t) (xs:=(ws.map qN).map V.str) (fun j σ H4=>∃ (v3:Option V) (kvs':List (Key × V)),σ=[some (.ref q),some (.ref d),some (.str xs[i]),v3]∧Same H H4∧H4 t=some (.tup ((ws.map qN).map V.str))∧H4 d=some (.dK kvs')∧kvs'.length≤kvs.length+j∧Hh kvs' (aV (xs.take i)++(ws.take j).map qN))
   ⟨_,kvs,rfl,s2.trans s3,e3,s3 _ _ ed,Nat.le_refl _,by simpa using hd2⟩ ?_ ?_ ?_
  ·rintro j σ H4 _ ⟨v3,kvs',_,_,e4,_⟩
   exact SqT.of e4
  ·rintro j y σ H4 hj ⟨v3,kvs',rfl,s4,e4,ed4,hk4,hd4⟩
   have hjl:j < ws.length:=by
    have:=(List.getElem?_eq_some_iff.mp hj).1
    simpa using this
   have ey:y=V.str (qN ws[j]):=by
    rw [List.getElem?_map,List.getElem?_map,List.getElem?_eq_getElem hjl] at hj
    exact (Option.some.inj hj).symm
   subst ey
   have ntd:t≠d:=lZ e4 ed4 (by intro z; cases z)
   have hsz:kvs'.length < sizeLine:=by
    have:=cg
    omega
   refine ⟨_,rfl,_,rfl,d,_,rfl,Dn.k (k:=Sum.inr (qN ws[j])) ed4 hsz,_,_,rfl,sp s4,(aM ntd).trans e4,ak,Nat.le_trans Fb (by omega),?_⟩
   have ht:(ws.take (j+1)).map qN=(ws.take j).map qN++[qN ws[j]]:=by
    rw [List.take_add_one,List.getElem?_eq_getElem hjl,List.map_append]
    rfl
   rw [ht,← List.append_assoc]
   exact hd4.put
  ·rintro σ H4 ⟨v3,kvs',rfl,s4,e4,ed4,hk4,hd4⟩
   rw [List.length_map,List.length_map] at hk4 hd4
   rw [List.take_length,← hcs] at hd4
   exact ⟨_,_,_,rfl,s4,ed4,by omega,hd4⟩
 ·rintro σ H2 ⟨v2,v3,kvs,rfl,s2,ed,hk,hd2⟩
  rw [List.length_map,List.take_length] at hd2
  exact ⟨_,rfl,k d kvs _ s2 ed hd2⟩
end
def uO (as bs:List Str) (p:Str × Str):Bool:=decide (p.1∈as) && decide (p.2∈bs)
def ur (as bs:List Str) (ps:List (Str × Str)):Nat:=(ps.filter (uO as bs)).length
def PrT (H:Hp) (us:List V) (ps:List (Str × Str)):Prop:=us.length=ps.length∧∀ (i:Nat) (u:V) (p:Str × Str),us[i]?=some u→ps[i]?=some p→∃ q:Addr,u=.ref q∧H q=some (.tup [.str p.1,.str p.2])
theorem PrT.same {H H':Hp} {us:List V} {ps:List (Str × Str)} (h:PrT H us ps) (s:Same H H'):PrT H' us ps:=⟨h.1,fun i u p a b=>by
 obtain ⟨q,e1,e2⟩:=h.2 i u p a b
 exact ⟨q,e1,s _ _ e2⟩⟩
theorem wC {as bs:List Str} {ps:List (Str × Str)} {i:Nat} (hi:i < ps.length):ur as bs (ps.take (i+1))=ur as bs (ps.take i)+if uO as bs ps[i] then 1 else 0:=by
 unfold ur
 rw [List.take_add_one,List.getElem?_eq_getElem hi,List.filter_append,List.length_append]
 show _+([ps[i]].filter (uO as bs)).length=_
 by_cases z:uO as bs ps[i]=true
 ·rw [if_pos z,List.filter_cons_of_pos z]
  rfl
 ·rw [if_neg z,List.filter_cons_of_neg z]
  rfl
def pk (side:Nat) (p:Str × Str):Str:=if side=0 then p.1 else p.2
def plc (side:Nat) (cs:List Str) (ps:List (Str × Str)) (n:Nat):List Nat:=(List.range n).filter fun i=>decide (pk side (ps.getD i (Str.empty,Str.empty))∈cs)
theorem Bm {side:Nat} {cs:List Str} {ps:List (Str × Str)} (n:Nat):plc side cs ps (n+1)=plc side cs ps n++if pk side (ps.getD n (Str.empty,Str.empty))∈cs then [n] else []:=by
 unfold plc
 rw [List.range_succ,List.filter_append]
 congr 1
 by_cases h:pk side (ps.getD n (Str.empty,Str.empty))∈cs
 ·rw [if_pos h,List.filter_cons_of_pos (by simpa using h)]
  rfl
 ·rw [if_neg h,List.filter_cons_of_neg (by simpa using h)]
  rfl
theorem yI (side:Nat) (cs:List Str) (ps:List (Str × Str)) (n:Nat):(plc side cs ps n).length≤n:=by
 have:=List.length_filter_le (fun i=>decide (pk side (ps.getD i (Str.empty,Str.empty))∈cs)) (List.range n)
 rw [List.length_range] at this
 exact this
theorem lM {side:Nat} {cs:List Str} {ps:List (Str × Str)} {n:Nat} {k:Int}:k∈(plc side cs ps n).map (fun i=>((i:Nat):Int))↔∃ i:Nat,k=i∧i < n∧pk side (ps.getD i (Str.empty,Str.empty))∈cs:=by
 unfold plc
 rw [List.mem_map]
 constructor
 ·rintro ⟨i,hi,rfl⟩
  obtain ⟨h1,h2⟩:=List.mem_filter.mp hi
  exact ⟨i,rfl,List.mem_range.mp h1,of_decide_eq_true h2⟩
 ·rintro ⟨i,rfl,h1,h2⟩
  exact ⟨i,List.mem_filter.mpr ⟨List.mem_range.mpr h1,decide_eq_true h2⟩,rfl⟩
theorem BL {as bs:List Str} {ps:List (Str × Str)} {L:List Int} (hn:L.Nodup) (hL:∀ k,k∈L↔k∈(plc 0 as ps ps.length).map (fun i=>((i:Nat):Int))∧k∈(plc 1 bs ps ps.length).map (fun i=>((i:Nat):Int))):L.length=ur as bs ps:=by
 have e:ps=(List.range ps.length).map fun i=>ps.getD i (Str.empty,Str.empty):=by
  apply List.ext_getElem (by simp)
  intro i h1 h2
  simp [List.getD_eq_getElem?_getD,h1]
 have hf:((List.range ps.length).filter fun i=>uO as bs (ps.getD i (Str.empty,Str.empty))).length=ur as bs ps:=by
  unfold ur
  conv=>rhs; rw [e]
  rw [List.filter_map,List.length_map]
  rfl
 rw [← hf]
 have hp:L.Perm (((List.range ps.length).filter fun i=>uO as bs (ps.getD i (Str.empty,Str.empty))).map fun i=>((i:Nat):Int)):=by
  refine (List.perm_ext_iff_of_nodup hn ?_).mpr fun k=>?_
  ·refine List.Pairwise.map _ (fun a b h z=>h (Int.ofNat.inj z)) (List.Pairwise.filter _ List.nodup_range)
  ·rw [hL k,lM,lM,List.mem_map]
   constructor
   ·rintro ⟨⟨i,rfl,h1,h2⟩,⟨j,hj,_,h4⟩⟩
    have ej:i=j:=Int.ofNat.inj hj
    subst ej
    refine ⟨i,List.mem_filter.mpr ⟨List.mem_range.mpr h1,?_⟩,rfl⟩
    unfold uO
    rw [decide_eq_true (show (ps.getD i (Str.empty,Str.empty)).1∈as from h2),decide_eq_true (show (ps.getD i (Str.empty,Str.empty)).2∈bs from h4)]
    rfl
   ·rintro ⟨i,hi,rfl⟩
    obtain ⟨h1,h2⟩:=List.mem_filter.mp hi
    unfold uO at h2
    obtain ⟨h3,h4⟩:=Bool.and_eq_true_iff.mp h2
    exact ⟨⟨i,rfl,List.mem_range.mp h1,of_decide_eq_true h3⟩,⟨i,rfl,List.mem_range.mp h1,of_decide_eq_true h4⟩⟩
 rw [hp.length_eq,List.length_map]
theorem wV {H H':Hp} {b:Addr} (s:Same H H') (h:H' b=none):H b=none:=by
 cases e:H b with
 | none=>rfl
 | some o=>rw [s _ _ e] at h; cases h
def sU:Sp:=fun vs H Q _=>∃ (qa qw:Addr) (side:Nat) (xs:List Str) (us:List V) (ps:List (Str × Str)),vs=[.ref qa,.ref qw,.int (side:Nat)]∧side≤1∧H qa=some (.tup (xs.map V.str))∧xs.length≤100∧(∀ x∈xs,x.length≤1000) ∧
 H qw=some (.tup us)∧us.length≤1000∧PrT H us ps∧∀ (l:Addr) (H':Hp),H l=none→Same H H'→H' l=some (.lst (((plc side (aV xs) ps ps.length).map fun i=>((i:Nat):Int)).map V.int))→Q (.ref l) H'
def Dy:Sp:=fun vs H Q _=>∃ (l1 l2:Addr) (as bs:List Int),vs=[.ref l1,.ref l2]∧H l1=some (.lst (as.map V.int))∧H l2=some (.lst (bs.map V.int))∧as.length≤4000∧bs.length≤4000∧∀ (L:List Int) (H':Hp),Same H H'→L.Nodup→(∀ k,k∈L↔k∈as∧k∈bs)→Q (.int (L.length:Nat)) H'
section
open M01
variable {P:Program} {w:World} {K:PySem.W.Frag} {mg:Str→Option Value} {base:Heap}
theorem jk:aP ["texts", "words", "side", "cores"] ["texts", "words", "side"] (au cA):=⟨rfl,rfl,rfl,by decide +kernel,rfl,by decide +kernel,by decide +kernel⟩
theorem lV (h:Has K mg "places_known" cA ["texts", "words", "side"]) (C_cores_among:Cal P w K mg base "cores_among" 4 ["texts"] zU) (m_enumerate:mg "enumerate" = none):Cal P w K mg base "places_known" 5 ["texts", "words", "side"] sU:=by
 refine h.mk' jk (fun vs H Q E hs=>?_) (fun f cdv A outer s H vs Q E hr hs=>?_)
 ·obtain ⟨qa,qw,side,xs,us,ps,rfl,_⟩:=hs
  rfl
 obtain ⟨qa,qw,side,xs,us,ps,rfl,hside,ha,ha1,ha2,hw,hu,hP,k⟩:=hs
 refine ⟨_,(aB (aW (i:=3) jk.nd rfl (Or.inr rfl) (aK C_cores_among hr (by decide) rfl (aj (pv 0) ao)))
  (aC (aR (aZ ["texts", "words", "side", "cores"] (au cA) ["side", "cores", "place", "pair"] [some 2,some 3,none,none] rfl rfl rfl (nU rfl m_enumerate (aj (pv 1) ao)) rfl (by decide +kernel) (by decide +kernel) (by decide +kernel) (by decide +kernel) (g:=qW K 2 (dO (cO 2) (dO (cO 3) su))) (hg:=fun cl C s H ex pn E=>cR (n:=2) rfl (aL (aD (i:=2) (by decide +kernel:(["side", "cores", "place", "pair"]:List Str).Nodup) rfl (Or.inl rfl) (Or.inr rfl)) (aL (aD (i:=3) (by decide +kernel:(["side", "cores", "place", "pair"]:List Str).Nodup) rfl (Or.inl rfl) (Or.inr rfl)) bU))) (ht:=fun cl C s H ex pn E=>(jc (Hv (IK (zK hr) (bA (rP (K:=K) rfl) (pv 3) (pv 0) (fun _ _=>rfl)) (pv 1)) (by with_unfolding_all rfl)))) (he:=fun cl C s H ex pn E=>(pv 2)))))),?_⟩
 refine ⟨_,rfl,qa,xs,rfl,ha,ha1,ha2,fun d kl H1 s1 e1 h1=>?_⟩
 refine gN ⟨_,rfl,qw,rfl,⟨_,SqT.of (s1 _ _ hw)⟩,fun l hl=>?_⟩
 refine bF (J:=G8 K qw) (l:=l) us.length (fun i σ' H'=>∃ (v2 v3:Option V),σ'=[some (.int (side:Nat)),some (.ref d),v2,v3]∧Same H1 H'∧H' l=some (.lst (((plc side (aV xs) ps i).map fun i=>((i:Nat):Int)).map V.int))) ⟨none,none,rfl,aq hl _,ak⟩ ?_ ?_
 ·rintro σ' H' ⟨v2,v3,rfl,s',e'⟩
  rw [hP.1] at e'
  exact ⟨⟨_,SqT.of (s' _ _ (s1 _ _ hw)),Nat.le_refl _⟩,k l H' (wV s1 hl) (s1.trans s') e'⟩
 ·rintro i σ' H' hi ⟨v2,v3,rfl,s',e'⟩
  have hat:us[i]?=some us[i]:=List.getElem?_eq_getElem hi
  have hwi:H' qw=some (.tup us):=s' _ _ (s1 _ _ hw)
  refine ⟨⟨_,_,SqT.of hwi,hat⟩,?_⟩
  rintro y H'' ⟨t,x,rfl,ht,rfl,hx⟩
  have ex:x=us[i]:=Option.some.inj ((hx _ (SqT.of hwi)).symm.trans hat)
  have s'':=s'.trans (aq ht (.tup [.int (i:Nat),x]))
  have hip:i < ps.length:=by rw [← hP.1]; exact hi
  obtain ⟨qi,eu,eq⟩:=(hP.same (s1.trans s'')).2 i us[i] ps[i] hat (List.getElem?_eq_getElem hip)
  rw [eu] at ex
  subst ex
  have ntl:l≠t:=aF e' ht
  have e'':(upd H' t (.tup [.int (i:Nat),.ref qi])) l=some (.lst (((plc side (aV xs) ps i).map fun i=>((i:Nat):Int)).map V.int)):=(aM ntl).trans e'
  have hpi:ps.getD i (Str.empty,Str.empty)=ps[i]:=by rw [List.getD_eq_getElem?_getD,List.getElem?_eq_getElem hip]; rfl
  have hsn:=Bm (side:=side) (cs:=aV xs) (ps:=ps) i
  rw [hpi] at hsn
  have hpl:=yI side (aV xs) ps i
  have hat2:∃ z:Str,z=pk side ps[i]∧atI [V.str ps[i].1,V.str ps[i].2] (side:Nat)=some (.str z):=by
   match side,hside with
   | 0,_=>exact ⟨_,rfl,cD _ _⟩
   | 1,_=>exact ⟨_,rfl,bw (xs:=[V.str ps[i].1,V.str ps[i].2]) (j:=1) rfl⟩
  obtain ⟨z,ez,hz⟩:=hat2
  rw [← ez] at hsn
  generalize ps[i]=pp at eq hz
  refine ⟨t,_,rfl,SqT.of ak,rfl,_,_,rfl,_,_,rfl,rfl,?_⟩
  refine ⟨_,rfl,_,rfl,qi,_,_,_,rfl,rfl,SqT.of eq,hz,_,rfl,d,_,rfl,vM.k (k:=Sum.inr z) (s'' _ _ e1),_,rfl,?_⟩
  refine dR (fun c1=>?_) (fun c1=>?_)
  ·rw [if_pos ((h1 _).mp c1)] at hsn
   refine ⟨_,rfl,_,e'',aH (by rw [List.length_map,List.length_map]; omega),_,_,rfl,?_,?_⟩
   ·intro c o q
    rw [aM (aF q hl)]
    exact s'' c o q
   ·rw [ak,hsn,List.map_append,List.map_append]
    rfl
  ·rw [if_neg (fun q=>c1 ((h1 _).mpr q)),List.append_nil] at hsn
   exact ⟨_,_,rfl,s'',by rw [hsn]; exact e''⟩
theorem lR:aP ["left", "right"] ["left", "right"] (au cC):=⟨rfl,rfl,rfl,by decide +kernel,rfl,by decide +kernel,by decide +kernel⟩
theorem jY (h:Has K mg "hits_of_places" cC ["left", "right"]) (m_len:mg "len" = none) (m_set:mg "set" = none):Cal P w K mg base "hits_of_places" 1 ["left", "right"] Dy:=by
 refine h.mk' lR (fun vs H Q E hs=>?_) (fun f cdv A outer s H vs Q E hr hs=>?_)
 ·obtain ⟨l1,l2,as,bs,rfl,_⟩:=hs
  rfl
 obtain ⟨l1,l2,as,bs,rfl,h1,h2,n1,n2,k⟩:=hs
 refine ⟨_,(aC (aR (aG oJ rfl m_len PySem.boot_len (aj (aX Ge (bV (pH rfl) rfl m_set boot_set (aj (pv 0) ao)) (bV (pH rfl) rfl m_set boot_set (aj (pv 1) ao))) ao)))),?_⟩
 refine ⟨_,rfl,l1,as,rfl,SqL.of h1,n1,fun a n ha hn=>?_⟩
 have s1:=aq ha (.set (Ew as) n)
 refine ⟨_,rfl,l2,bs,rfl,SqL.of (s1 _ _ h2),n2,fun b m hb hm=>?_⟩
 have s2:=aq hb (.set (Ew bs) m)
 refine ⟨a,b,_,_,n,m,rfl,rfl,aF ak hb,s2 _ _ ak,ak,by omega,by omega,fun c L hc hnd hL=>?_⟩
 refine ⟨c,_,_,rfl,ak,k L _ ((s1.trans s2).trans (aq hc _)) hnd fun x=>?_⟩
 rw [hL x]
 unfold Ew
 rw [decide_eq_true_eq,decide_eq_true_eq]
end
def plI (side:Nat) (x:Str) (ps:List (Str × Str)):List Int:=(plc side (aV [x]) ps ps.length).map fun i=>((i:Nat):Int)
def siz (x:Str):Int:=sz x.cps.toList
theorem HN:∀ l:List Nat,0≤sz l∧sz l≤l.length
 | []=>⟨Int.le_refl _,Int.le_refl _⟩
 | c :: l=>by
  have ih:=HN l
  have e:=pD [c] l
  have e2:=z7 [] c
  rw [List.nil_append] at e2
  have e3:sz []=0:=rfl
  rw [show c :: l=[c]++l from rfl,e,e2,e3,List.length_append]
  simp only [List.length_singleton]
  split <;> omega
theorem Je (x:Str) (h:x.length≤1000):0≤siz x∧siz x≤1000:=by
 have:=HN x.cps.toList
 have e:x.cps.toList.length=x.length:=by simp [Str.length]
 unfold siz
 omega
theorem lA:∀ {xs:List Str},(∀ x∈xs,x.length≤1000)→0≤(xs.map siz).sum∧(xs.map siz).sum≤1000 * xs.length
 | [],_=>⟨Int.le_refl _,Int.le_refl _⟩
 | x :: xs,h=>by
  have:=Je x (h x List.mem_cons_self)
  have:=lA (xs:=xs) fun y hy=>h y (List.mem_cons_of_mem _ hy)
  rw [List.map_cons,List.sum_cons,List.length_cons]
  omega
structure vf (H:Hp) (l:Addr) (side:Nat) (xs:List Str) (ps:List (Str × Str)):Prop where
 ex:∃ us:List V,H l=some (.lst us)∧us.length=xs.length∧∀ (i:Nat) (u:V) (x:Str),us[i]?=some u→xs[i]?=some x→∃ t lp:Addr,u=.ref t∧H t=some (.tup [.int (siz x),.ref lp])∧H lp=some (.lst ((plI side x ps).map V.int))
theorem vf.same {H H':Hp} {l:Addr} {side:Nat} {xs:List Str} {ps:List (Str × Str)} (h:vf H l side xs ps) (s:Same H H'):vf H' l side xs ps:=by
 obtain ⟨us,e,hl,k⟩:=h.ex
 refine ⟨us,s _ _ e,hl,fun i u x hu hx=>?_⟩
 obtain ⟨t,lp,e1,e2,e3⟩:=k i u x hu hx
 exact ⟨t,lp,e1,s _ _ e2,s _ _ e3⟩
def Ab (d:Int):Int:=if d < 0 then -d else d
def Ae (i j:Int):Int:=if j > i then j else i
def CP (ns:List Int) (a b:Nat) (d:Int) (k:Nat):Int:=ns.getD 1 0 * (Ae (a:Nat) (b:Nat) - 1)+ns.getD 3 0 * Ab d - ns.getD 4 0 * (k:Nat)
def costOf (ns:List Int) (xs ys:List Str) (ps:List (Str × Str)):Int:=CP ns xs.length ys.length ((xs.map siz).sum - (ys.map siz).sum) (ur (aV xs) (aV ys) ps)
def sH:Sp:=fun vs H Q _=>∃ x:Str,vs=[.str x]∧x.length≤1000∧Q (.int (siz x)) H
def mj:Sp:=fun vs H Q _=>∃ (q qw:Addr) (side:Nat) (xs:List Str) (us:List V) (ps:List (Str × Str)),vs=[.ref q,.ref qw,.int (side:Nat)]∧side≤1∧H q=some (.tup (xs.map V.str))∧xs.length≤100∧(∀ x∈xs,x.length≤1000)∧H qw=some (.tup us)∧us.length≤1000∧PrT H us ps ∧
 ∀ (l:Addr) (H':Hp),Same H H'→vf H' l side xs ps→Q (.ref l) H'
def pG:Sp:=fun vs H Q _=>∃ (l:Addr) (side:Nat) (xs:List Str) (ps:List (Str × Str)),vs=[.ref l]∧vf H l side xs ps∧xs.length≤100∧∀ H',Same H H'→Q (.int (xs.map siz).sum) H'
def lN:Sp:=fun vs H Q _=>∃ (l:Addr) (side:Nat) (xs:List Str) (ps:List (Str × Str)),vs=[.ref l]∧vf H l side xs ps∧xs.length≤100∧ps.length≤1000∧∀ (l':Addr) (H':Hp),Same H H'→H' l'=some (.lst ((xs.flatMap fun x=>plI side x ps).map V.int))→Q (.ref l') H'
def xr:Sp:=fun vs H Q _=>∃ (l1 l2 qp:Addr) (xs ys:List Str) (ps:List (Str × Str)) (ns:List Int),vs=[.ref l1,.ref l2,.ref qp]∧vf H l1 0 xs ps∧vf H l2 1 ys ps∧xs.length≤3∧ys.length≤3∧(∀ x∈xs,x.length≤1000)∧(∀ x∈ys,x.length≤1000)∧ps.length≤1000∧H qp=some (.tup (ns.map V.int))∧ns.length=5 ∧
 ∀ H',Same H H'→Q (.int (costOf ns xs ys ps)) H'
theorem lK {xs:List Str} {c:Str}:c∈aV xs↔∃ x∈xs,c∈aV [x]:=by
 unfold aV
 simp only [List.mem_flatMap,List.mem_singleton]
 constructor
 ·rintro ⟨x,hx,h⟩
  exact ⟨x,hx,x,rfl,h⟩
 ·rintro ⟨x,hx,y,rfl,h⟩
  exact ⟨_,hx,h⟩
theorem yR {side:Nat} {xs:List Str} {ps:List (Str × Str)} {k:Int}:k∈(xs.flatMap fun x=>plI side x ps)↔k∈(plc side (aV xs) ps ps.length).map fun i=>((i:Nat):Int):=by
 rw [List.mem_flatMap,lM]
 constructor
 ·rintro ⟨x,hx,h⟩
  obtain ⟨i,e,hi,hm⟩:=lM.mp h
  exact ⟨i,e,hi,lK.mpr ⟨x,hx,hm⟩⟩
 ·rintro ⟨i,e,hi,hm⟩
  obtain ⟨x,hx,h⟩:=lK.mp hm
  exact ⟨x,hx,lM.mpr ⟨i,e,hi,h⟩⟩
theorem zP (side:Nat) (x:Str) (ps:List (Str × Str)):(plI side x ps).length≤ps.length:=by
 unfold plI
 rw [List.length_map]
 exact yI _ _ _ _
theorem nH {side:Nat} {ps:List (Str × Str)}:∀ xs:List Str,(xs.flatMap fun x=>plI side x ps).length≤xs.length * ps.length
 | []=>Nat.zero_le _
 | x :: xs=>by
  have:=nH (side:=side) (ps:=ps) xs
  have:=zP side x ps
  rw [List.flatMap_cons,List.length_append,List.length_cons,Nat.succ_mul]
  omega
section
open M01
variable {P:Program} {w:World} {K:PySem.W.Frag} {mg:Str→Option Value} {base:Heap}
theorem Cz:aP ["text"] ["text"] (au iz):=⟨rfl,rfl,rfl,by decide +kernel,rfl,by decide +kernel,by decide +kernel⟩
theorem wH (h:Has K mg "size_of" iz ["text"]) (m_len:mg "len" = none):Cal P w K mg base "size_of" 1 ["text"] sH:=by
 refine h.mk' Cz (fun vs H Q E hs=>?_) (fun f cdv A outer s H vs Q E hr hs=>?_)
 ·obtain ⟨x,rfl,_⟩:=hs
  rfl
 obtain ⟨x,rfl,hz,k⟩:=hs
 refine ⟨_,(aC (aR (aX gF (aX gF (aG qF rfl m_len PySem.boot_len (aj (pv 0) ao)) (iw PySem.F.plainAttrs_str PySem.F.slot_str_count PySem.F.type_str_count tE (pv 0) (aj bL ao))) (iw PySem.F.plainAttrs_str PySem.F.slot_str_count PySem.F.type_str_count tE (pv 0) (aj bL ao))))),?_⟩
 refine ⟨_,rfl,x,rfl,small hz,_,rfl,rfl,x,32,rfl,rfl,_,_,rfl,rfl,_,rfl,rfl,x,10,rfl,rfl,_,_,rfl,rfl,?_⟩
 have e:=Ja x.cps.toList
 have el:(x.cps.toList.length:Int)=(x.length:Int):=by simp [Str.length]
 rw [el] at e
 show Q (.int ((x.length:Int) - cnt 32 x.cps.toList - cnt 10 x.cps.toList)) H
 rw [e]
 exact k
theorem uR:aP ["texts", "words", "side"] ["texts", "words", "side"] (au eG):=⟨rfl,rfl,rfl,by decide +kernel,rfl,by decide +kernel,by decide +kernel⟩
theorem vJ (h:Has K mg "measured" eG ["texts", "words", "side"]) (C_places_known:Cal P w K mg base "places_known" 5 ["texts", "words", "side"] sU) (C_size_of:Cal P w K mg base "size_of" 1 ["text"] sH):Cal P w K mg base "measured" 6 ["texts", "words", "side"] mj:=by
 refine h.mk' uR (fun vs H Q E hs=>?_) (fun f cdv A outer s H vs Q E hr hs=>?_)
 ·obtain ⟨q,qw,side,xs,us,ps,rfl,_⟩:=hs
  rfl
 obtain ⟨q,qw,side,xs,us,ps,rfl,hside,hq,hx1,hx2,hw,hu,hP,k⟩:=hs
 refine ⟨_,(aC (aR (aZ ["texts", "words", "side"] (au eG) ["words", "side", "text"] [some 1,some 2,none] rfl rfl rfl (cI (pv 0)) rfl (by decide +kernel) (by decide +kernel) (by decide +kernel) (by decide +kernel) (hg:=fun cl C s H ex pn E=>(aD (i:=2) (by decide +kernel:(["words", "side", "text"]:List Str).Nodup) rfl (Or.inl rfl))) (ht:=fun cl C s H ex pn E=>bh) (he:=fun cl C s H ex pn E=>(bD (aj (aK C_size_of hr (by decide) rfl (aj (pv 2) ao)) (aj (aK C_places_known hr (by decide) rfl (aj (bD (aj (pv 2) ao)) (aj (pv 0) (aj (pv 1) ao)))) ao))))))),?_⟩
 refine ⟨_,rfl,q,rfl,⟨_,SqT.of hq⟩,fun l hl=>?_⟩
 refine bF (J:=Itt K q) (l:=l) xs.length (fun i σ' H'=>∃ (v:Option V) (ms:List V),σ'=[some (.ref qw),some (.int (side:Nat)),v]∧Same H H'∧H' l=some (.lst ms)∧ms.length=i∧∀ (j:Nat) (u:V) (x:Str),ms[j]?=some u→xs[j]?=some x→∃ t lp:Addr,u=.ref t∧H' t=some (.tup [.int (siz x),.ref lp])∧H' lp=some (.lst ((plI side x ps).map V.int))∧lp≠l) ⟨none,[],rfl,aq hl _,ak,rfl,fun j u x h=>by simp at h⟩ ?_ ?_
 ·rintro σ' H1 ⟨v,ms,rfl,s1,e1,hn,hm⟩
  refine ⟨⟨_,SqT.of (s1 _ _ hq),by rw [List.length_map]; exact Nat.le_refl _⟩,k l H1 s1 ⟨ms,e1,hn,fun j u x h1 h2=>?_⟩⟩
  obtain ⟨t,lp,a,b,c,_⟩:=hm j u x h1 h2
  exact ⟨t,lp,a,b,c⟩
 ·rintro i σ' H1 hi ⟨v,ms,rfl,s1,e1,hn,hm⟩
  have hat:=DN hi
  refine ⟨⟨_,_,SqT.of (s1 _ _ hq),hat⟩,?_⟩
  rintro y H2 ⟨rfl,hy⟩
  have ey:y=.str xs[i]:=Option.some.inj ((hy _ (SqT.of (s1 _ _ hq))).symm.trans hat)
  subst ey
  have hxl:=hx2 xs[i] (List.getElem_mem hi)
  refine gN (jy (gB ⟨_,rfl,xs[i],rfl,hxl,_,rfl,smn 1,fun t1 ht1=>?_⟩))
  have s2:=aq ht1 (.tup [.str xs[i]])
  have e2:(upd H2 t1 (.tup [.str xs[i]])) t1=some (.tup ([xs[i]].map V.str)):=ak
  have el2:(upd H2 t1 (.tup [.str xs[i]])) l=some (.lst ms):=s2 _ _ e1
  generalize upd H2 t1 (.tup [.str xs[i]])=H3 at s2 e2 el2
  have s03:=s1.trans s2
  refine ⟨_,rfl,_,rfl,t1,qw,side,[xs[i]],us,ps,rfl,hside,e2,by simp,fun x hx=>by rw [List.mem_singleton.mp hx]; exact hxl,s03 _ _ hw,hu,hP.same s03,fun lp H4 hfree s4 e4=>?_⟩
  refine ⟨smn 2,fun t hf=>?_⟩
  have s5:=aq hf (.tup [.int (siz xs[i]),.ref lp])
  have e5:(upd H4 t (.tup [.int (siz xs[i]),.ref lp])) t=some (.tup [.int (siz xs[i]),.ref lp]):=ak
  have s25:=(s2.trans s4).trans s5
  have elp:=s5 _ _ e4
  have el5:=s25 _ _ e1
  generalize upd H4 t (.tup [.int (siz xs[i]),.ref lp])=H5 at s5 e5 s25 elp el5
  have hms:ms.length < 1000:=by omega
  have nlp:lp≠l:=(aF el2 hfree).symm
  refine ⟨ms,el5,aH (by omega),_,ms++[.ref t],rfl,aU (s1.trans s25) hl,ak,by rw [List.length_append,hn]; rfl,fun j u x h1 h2=>?_⟩
  have keep:∀ (c:Addr) (o:HO),H5 c=some o→c≠l→(upd H5 l (.lst (ms++[V.ref t]))) c=some o:=fun c o z h=>by rw [aM h]; exact z
  by_cases hj:j < ms.length
  ·rw [List.getElem?_append_left hj] at h1
   obtain ⟨t',lp',a,b,c,d⟩:=hm j u x h1 h2
   refine ⟨t',lp',a,keep _ _ (s25 _ _ b) (fun z=>?_),keep _ _ (s25 _ _ c) d,d⟩
   rw [z,e1] at b
   cases b
  ·have hj2:j=ms.length:=by
    have:=(List.getElem?_eq_some_iff.mp h1).1
    rw [List.length_append,List.length_singleton] at this
    omega
   subst hj2
   rw [List.getElem?_append_right (Nat.le_refl _),Nat.sub_self] at h1
   have eu:u=.ref t:=(Option.some.inj h1).symm
   rw [hn,bB hi] at h2
   have exx:x=xs[i]:=(Option.some.inj h2).symm
   subst exx
   refine ⟨t,lp,eu,keep _ _ e5 (fun z=>?_),keep _ _ elp nlp,nlp⟩
   rw [z,el5] at e5
   cases e5
theorem rF:aP ["texts"] ["texts"] (au dB):=⟨rfl,rfl,rfl,by decide +kernel,rfl,by decide +kernel,by decide +kernel⟩
theorem ni (h:Has K mg "size_of_all" dB ["texts"]) (m_sum:mg "sum" = none):Cal P w K mg base "size_of_all" 1 ["texts"] pG:=by
 refine h.mk' rF (fun vs H Q E hs=>?_) (fun f cdv A outer s H vs Q E hr hs=>?_)
 ·obtain ⟨l,side,xs,ps,rfl,_⟩:=hs
  rfl
 obtain ⟨l,side,xs,ps,rfl,hM,hx,k⟩:=hs
 refine ⟨_,(aC (aR (aG (cV rfl) rfl m_sum boot_sum (aj (aZ ["texts"] (au dB) ["size", "places"] [none,none] rfl rfl rfl (cZ (pv 0)) rfl (by decide +kernel) (by decide +kernel) (by decide +kernel) (by decide +kernel) (g:=qW K 2 (dO (cO 0) (dO (cO 1) su))) (hg:=fun cl C s H ex pn E=>cR (n:=2) rfl (aL (aD (i:=0) (by decide +kernel:(["size", "places"]:List Str).Nodup) rfl (Or.inl rfl) (Or.inr rfl)) (aL (aD (i:=1) (by decide +kernel:(["size", "places"]:List Str).Nodup) rfl (Or.inl rfl) (Or.inr rfl)) bU))) (ht:=fun cl C s H ex pn E=>bh) (he:=fun cl C s H ex pn E=>(pv 0))) ao)))),?_⟩
 obtain ⟨us,e,hl,hu⟩:=hM.ex
 refine ⟨_,rfl,l,rfl,⟨_,SqL.of e⟩,fun lc hlc=>?_⟩
 refine bF (J:=Itl K l) (l:=lc) us.length (fun i σ' H'=>∃ v0 v1:Option V,σ'=[v0,v1]∧Same H H'∧H' lc=some (.lst (((xs.take i).map siz).map V.int))) ⟨none,none,rfl,aq hlc _,ak⟩ ?_ ?_
 ·rintro σ' H1 ⟨v0,v1,rfl,s1,e1⟩
  rw [hl,List.take_length] at e1
  exact ⟨⟨_,SqL.of (s1 _ _ e),Nat.le_refl _⟩,lc,_,rfl,SqL.of e1,k H1 s1⟩
 ·rintro i σ' H1 hi ⟨v0,v1,rfl,s1,e1⟩
  have hix:i < xs.length:=by omega
  refine ⟨⟨_,_,SqL.of (s1 _ _ e),bB hi⟩,?_⟩
  rintro y H2 ⟨rfl,hy⟩
  have ey:y=us[i]:=Option.some.inj ((hy _ (SqL.of (s1 _ _ e))).symm.trans (bB hi))
  obtain ⟨t,lp,eu,ht,_⟩:=hu i us[i] xs[i] (bB hi) (bB hix)
  rw [eu] at ey
  subst ey
  refine ⟨t,_,rfl,SqT.of (s1 _ _ ht),rfl,_,_,rfl,_,_,rfl,rfl,jy (gB ?_)⟩
  refine ⟨_,rfl,_,e1,aH (by rw [List.length_map,List.length_map,List.length_take]; omega),_,_,rfl,aU s1 hlc,?_⟩
  rw [ak,take_one (bB hix),List.map_append,List.map_append]
  rfl
theorem eU:aP ["texts", "found", "size", "places"] ["texts"] (au cN):=⟨rfl,rfl,rfl,by decide +kernel,rfl,by decide +kernel,by decide +kernel⟩
theorem kY (h:Has K mg "places_of_all" cN ["texts"])  : Cal P w K mg base "places_of_all" 1 ["texts"] lN:=by
 refine h.mk' eU (fun vs H Q E hs=>?_) (fun f cdv A outer s H vs Q E hr hs=>?_)
 ·obtain ⟨l,side,xs,ps,rfl,_⟩:=hs
  rfl
 obtain ⟨l,side,xs,ps,rfl,hM,hx,hp,k⟩:=hs
 refine ⟨_,(aB (aW (i:=1) eU.nd rfl (Or.inl rfl) (cU ao))
  (aB (cW PassesOwn.never rfl (cZ (pv 0)) (cR (n:=2) rfl (aL (aD (i:=2) eU.nd rfl (Or.inl rfl)) (aL (aD (i:=3) eU.nd rfl (Or.inl rfl)) bU)))
   (aC (eN (iw PySem.F.plainAttrs_list PySem.F.slot_list_extend PySem.F.type_list_extend zu (pv 1) (aj (pv 3) ao)))))
  (aC (aR (pv 1))))),?_⟩
 obtain ⟨us,e,hl,hu⟩:=hM.ex
 refine ⟨smn 0,fun lf hlf=>?_⟩
 refine gN ⟨_,rfl,l,rfl,⟨_,SqL.of (aq hlf _ _ _ e)⟩,?_⟩
 refine ji (K:=K) (a:=l) (xs:=us) (fun i σ H1=>∃ v2 v3:Option V,σ=[some (.ref l),some (.ref lf),v2,v3]∧Same H H1∧H1 lf=some (.lst (((xs.take i).flatMap fun x=>plI side x ps).map V.int))) ⟨_,_,rfl,aq hlf _,ak⟩ ?_ ?_ ?_
 ·rintro i σ H1 _ ⟨_,_,_,s1,_⟩
  exact SqL.of (s1 _ _ e)
 ·rintro i y σ H1 hi ⟨v2,v3,rfl,s1,e1⟩
  have hix:i < xs.length:=by have:=(List.getElem?_eq_some_iff.mp hi).1; omega
  obtain ⟨t,lp,eu,ht,hlp⟩:=hu i y xs[i] hi (bB hix)
  subst eu
  refine ⟨t,_,rfl,SqT.of (s1 _ _ ht),rfl,_,_,rfl,_,_,rfl,rfl,?_⟩
  have h1:=nH (side:=side) (ps:=ps) (xs.take i)
  have h2:=zP side xs[i] ps
  have h3:(xs.take i).length * ps.length≤100 * 1000:=Nat.mul_le_mul (by rw [List.length_take]; omega) hp
  refine ⟨_,rfl,.inl ⟨rfl,_,SqL.of e1⟩,_,rfl,lf,lp,_,_,rfl,rfl,e1,s1 _ _ hlp,?_,_,_,rfl,aU s1 hlf,?_⟩
  ·rw [List.length_map,List.length_map]
   exact Nat.le_trans (show _≤1000000 by omega) cg
  ·rw [ak,take_one (bB hix),List.flatMap_append,List.map_append]
   simp
 ·rintro σ H1 ⟨v2,v3,rfl,s1,e1⟩
  rw [hl,List.take_length] at e1
  exact ⟨_,rfl,k lf H1 s1 e1⟩
theorem dZ:aP ["ones", "others", "prices", "above_one", "difference", "found"] ["ones", "others", "prices"] (au cG):=⟨rfl,rfl,rfl,by decide +kernel,rfl,by decide +kernel,by decide +kernel⟩
theorem lg (h:Has K mg "measured_cost" cG ["ones", "others", "prices"]) (C_size_of_all:Cal P w K mg base "size_of_all" 1 ["texts"] pG) (C_hits_of_places:Cal P w K mg base "hits_of_places" 1 ["left", "right"] Dy) (C_places_of_all:Cal P w K mg base "places_of_all" 1 ["texts"] lN) (m_max:mg "max" = none) (m_len:mg "len" = none) (m_abs:mg "abs" = none) {t_MORE:Tok} (q_MORE:mg "MORE" = some (.int 1 t_MORE)) {t_STRETCH:Tok} (q_STRETCH:mg "STRETCH" = some (.int 3 t_STRETCH)) {t_ANCHOR:Tok} (q_ANCHOR:mg "ANCHOR" = some (.int 4 t_ANCHOR)):Cal P w K mg base "measured_cost" 2 ["ones", "others", "prices"] xr:=by
 refine h.mk' dZ (fun vs H Q E hs=>?_) (fun f cdv A outer s H vs Q E hr hs=>?_)
 ·obtain ⟨l1,l2,qp,xs,ys,ps,ns,rfl,_⟩:=hs
  rfl
 obtain ⟨l1,l2,qp,xs,ys,ps,ns,rfl,m1,m2,hx,hy,hx2,hy2,hp,hqp,hns,k⟩:=hs
 refine ⟨_,(aB (aW (i:=3) dZ.nd rfl (Or.inl rfl) (aX gF (aG (qg rfl) rfl m_max boot_max (aj (aG aQ rfl m_len PySem.boot_len (aj (pv 0) ao)) (aj (aG aQ rfl m_len PySem.boot_len (aj (pv 1) ao)) ao))) aA))
  (aB (aW (i:=4) dZ.nd rfl (Or.inl rfl) (aG kO rfl m_abs boot_abs (aj (aX gF (aK C_size_of_all hr (by decide) rfl (aj (pv 0) ao)) (aK C_size_of_all hr (by decide) rfl (aj (pv 1) ao))) ao)))
  (aB (aW (i:=5) dZ.nd rfl (Or.inl rfl) (aK C_hits_of_places hr (by decide) rfl (aj (aK C_places_of_all hr (by decide) rfl (aj (pv 0) ao)) (aj (aK C_places_of_all hr (by decide) rfl (aj (pv 1) ao)) ao))))
  (aC (aR (aX gF (aX bI (aX jj (bA bH (pv 2) (jD (v:=.int 1) rfl q_MORE ⟨t_MORE,rfl⟩) (fun _ _=>rfl)) (pv 3)) (aX jj (bA bH (pv 2) (jD (v:=.int 3) rfl q_STRETCH ⟨t_STRETCH,rfl⟩) (fun _ _=>rfl)) (pv 4))) (aX jj (bA bH (pv 2) (jD (v:=.int 4) rfl q_ANCHOR ⟨t_ANCHOR,rfl⟩) (fun _ _=>rfl)) (pv 5)))))))),?_⟩
 obtain ⟨us,e1,hu1,_⟩:=id m1.ex
 obtain ⟨ws,e2,hu2,_⟩:=id m2.ex
 have b1:=lA hx2
 have b2:=lA hy2
 refine ⟨_,rfl,l1,_,rfl,.inl (SqL.of e1),_,rfl,l2,_,rfl,.inl (SqL.of e2),_,_,rfl,_,_,rfl,rfl,?_⟩
 rw [hu1,hu2]
 refine gN ⟨_,rfl,l1,0,xs,ps,rfl,m1,by omega,fun H1 s1=>?_⟩
 refine ⟨_,rfl,l2,1,ys,ps,rfl,m2.same s1,by omega,fun H2 s2=>⟨_,_,rfl,rfl,_,rfl,?_⟩⟩
 have s02:=s1.trans s2
 refine gN ⟨_,rfl,l1,0,xs,ps,rfl,m1.same s02,by omega,hp,fun l3 H3 s3 e3=>?_⟩
 refine ⟨_,rfl,l2,1,ys,ps,rfl,m2.same (s02.trans s3),by omega,hp,fun l4 H4 s4 e4=>?_⟩
 have h1:=nH (side:=0) (ps:=ps) xs
 have h2:=nH (side:=1) (ps:=ps) ys
 have h3:xs.length * ps.length≤3 * 1000:=Nat.mul_le_mul hx hp
 have h4:ys.length * ps.length≤3 * 1000:=Nat.mul_le_mul hy hp
 refine ⟨l3,l4,_,_,rfl,s4 _ _ e3,e4,by omega,by omega,fun L H5 s5 hnd hL=>?_⟩
 have hlen:L.length=ur (aV xs) (aV ys) ps:=BL hnd fun k=>by rw [hL k,yR,yR]
 have hLb:L.length≤1000:=by
  rw [hlen]
  unfold ur
  have:=List.length_filter_le (uO (aV xs) (aV ys)) ps
  omega
 have s05:=((s02.trans s3).trans s4).trans s5
 have at1:atI (ns.map V.int) 1=some (.int (ns.getD 1 0)):=bw (j:=1) (int_at (by omega))
 have at3:atI (ns.map V.int) 3=some (.int (ns.getD 3 0)):=bw (j:=3) (int_at (by omega))
 have at4:atI (ns.map V.int) 4=some (.int (ns.getD 4 0)):=bw (j:=4) (int_at (by omega))
 have q5:=s05 _ _ hqp
 have bm:-(2 ^ 64) < Ae (xs.length:Nat) (ys.length:Nat) - 1∧Ae (xs.length:Nat) (ys.length:Nat) - 1 < 2 ^ 64:=by
  unfold Ae
  split <;> omega
 have bd:-(2 ^ 64) < Ab ((xs.map siz).sum - (ys.map siz).sum)∧Ab ((xs.map siz).sum - (ys.map siz).sum) < 2 ^ 64:=by
  unfold Ab
  split <;> omega
 refine gN ⟨_,rfl,qp,_,_,_,rfl,rfl,SqT.of q5,at1,_,rfl,_,_,rfl,rfl,.inr bm,_,rfl,qp,_,_,_,rfl,rfl,SqT.of q5,at3,_,rfl,_,_,rfl,rfl,.inr bd,_,_,rfl,rfl,_,rfl,qp,_,_,_,rfl,rfl,SqT.of q5,at4,_,rfl,_,_,rfl,rfl,.inr ⟨by omega,by omega⟩,_,_,rfl,rfl,?_⟩
 have:=k H5 s05
 unfold costOf CP at this
 rw [← hlen] at this
 exact this
end
theorem kj (i a n:Nat) (h:n=a):Ao (i:Nat) n=(List.range' i a).map fun k=>V.int (k:Nat):=by
 subst h
 unfold Ao
 rw [List.range'_eq_map_range,List.map_map]
 refine List.map_congr_left fun k _=>?_
 show V.int _=V.int _
 congr 1
theorem uF (H:Hp):∀ xs:List Nat,cQ H (xs.map fun k=>V.int (k:Nat)) (xs.map fun i=>D.int (i:Nat))
 | []=>trivial
 | _ :: xs=>⟨rfl,uF H xs⟩
theorem Hz {H:Hp} {v:V} {xs:List Nat} (h:Den H v (nD xs)):∃ t:Addr,v=.ref t∧H t=some (.tup (xs.map fun k=>V.int (k:Nat))):=by
 obtain ⟨t,vs,e,ht,hd⟩:=bO h
 have:vs=xs.map fun k=>V.int (k:Nat):=by
  clear ht e h
  induction xs generalizing vs with
  | nil =>
   cases vs with
   | nil=>rfl
   | cons _ _=>exact hd.elim
  | cons x xs ih =>
   cases vs with
   | nil=>exact hd.elim
   | cons u us =>
    have e:u=.int (x:Nat):=hd.1
    rw [e,ih us hd.2]
    rfl
 rw [this] at ht
 exact ⟨t,e,ht⟩
theorem Fv {H:Hp} {v:V} {a b:D} (h:Den H v (.tup [a,b])):∃ (t:Addr) (x y:V),v=.ref t∧H t=some (.tup [x,y])∧Den H x a∧Den H y b:=by
 obtain ⟨t,vs,e,ht,hd⟩:=bO h
 match vs,hd with
 | [x,y],hd=>exact ⟨t,x,y,e,ht,hd.1,hd.2.1⟩
 | [],hd=>exact hd.elim
 | [_],hd=>exact hd.2.elim
 | _ :: _ :: _ :: _,hd=>exact hd.2.2.elim
theorem at_of {H:Hp} {vs:List V} {ds:List D} (d:cQ H vs ds) {i:Nat} {v:V} (h:vs[i]?=some v) {e:D} (he:ds[i]?=some e):Den H v e:=by
 obtain ⟨f,hf,k⟩:=d.at_ h
 rw [hf] at he
 cases he
 exact k
theorem jG {H:Hp} {v:V} {q:Lk} (h:Den H v (lkD q)):∃ p a b,v=.ref p∧H p=some (.tup [.ref a,.ref b])∧H a=some (.tup (q.1.map fun i=>V.int (i:Nat)))∧H b=some (.tup (q.2.map fun i=>V.int (i:Nat))):=by
 obtain ⟨p,vs,rfl,hp,d⟩:=bO h
 match vs,d,hp with
 | [x,y],d,hp =>
  obtain ⟨a,rfl,ha⟩:=Hz d.1
  obtain ⟨b,rfl,hb⟩:=Hz d.2.1
  exact ⟨p,a,b,rfl,hp,ha,hb⟩
 | [],d,_=>exact d.elim
 | [_],d,_=>exact d.2.elim
 | _ :: _ :: _ :: _,d,_=>exact d.2.2.elim
theorem Cw {K:PySem.W.Frag} {H H':Hp} {a:Addr} {xs:List V} (h:SqT K H a xs) (s:Same H H'):SqT K H' a xs:=by
 rcases h with (e | ⟨o,e⟩) | r
 ·exact .inl (.inl (s _ _ e))
 ·exact .inl (.inr ⟨o,s _ _ e⟩)
 ·exact .inr r
def Jf (K:PySem.W.Frag):Sp:=fun vs H Q _=>∃ (i j a b:Nat) (sh:Addr),vs=[.int (i:Nat),.int (j:Nat),.ref sh]∧SqT K H sh [.int (a:Nat),.int (b:Nat)]∧i≤1000∧j≤1000∧a≤3∧b≤3∧∀ (r:V) (H':Hp),Same H H'→Den H' r (stD (one i j (a,b)))→Q r H'
def qG:Sp:=fun vs H Q _=>∃ (i j:Nat),vs=[.int (i:Nat),.int (j:Nat)]∧∀ (r:V) (H':Hp),Same H H'→Den H' r (stD (crs i j))→Q r H'
def oE:Sp:=fun vs H Q _=>∃ (v:V) (s:Stp),vs=[v]∧Den H v (stD s)∧s.length≤2∧(∀ p∈s,p.1.length≤1000∧p.2.length≤1000)∧∀ (r:Addr) (H':Hp),Same H H'→H' r=some (.tup [.int (sz1 s:Nat),.int (sz2 s:Nat)])→Q (.ref r) H'
section
variable {P:Program} {w:World} {K:PySem.W.Frag} {mg:Str→Option Value} {base:Heap}
theorem wR:aP ["i", "j", "shape"] ["i", "j", "shape"] (au gb):=⟨rfl,rfl,rfl,by decide +kernel,rfl,by decide +kernel,by decide +kernel⟩
theorem vq (h:Has K mg "one_link" gb ["i", "j", "shape"]) (m_tuple:mg "tuple" = none) (m_range:mg "range" = none):Cal P w K mg base "one_link" 1 ["i", "j", "shape"] (Jf K):=by
 refine h.mk' wR (fun vs H Q E hs=>?_) (fun f cdv A outer s H vs Q E hr hs=>?_)
 ·obtain ⟨i,j,a,b,sh,rfl,_⟩:=hs
  rfl
 obtain ⟨i,j,a,b,sh,rfl,hsh,hi,hj,ha,hb,k⟩:=hs
 refine ⟨_,(aC (aR (bD (aj (bD (aj (nT rfl rfl m_tuple rfl m_range (aj (pv 0) (aj (aX bI (pv 0) (bA bH (pv 2) aA (fun _ _=>rfl))) ao))) (aj (nT rfl rfl m_tuple rfl m_range (aj (pv 1) (aj (aX bI (pv 1) (bA bH (pv 2) aA (fun _ _=>rfl))) ao))) ao))) ao)))),?_⟩
 refine ⟨_,rfl,_,rfl,_,rfl,sh,_,_,_,rfl,rfl,hsh,cD _ _,_,_,rfl,rfl,_,_,rfl,⟨by omega,by omega,by omega,by omega⟩,by omega,fun p1 hp1=>?_⟩
 rw [kj i a _ (by omega)]
 have s1:=aq hp1 (.tup ((List.range' i a).map fun k=>V.int (k:Nat)))
 have e1:(upd H p1 (.tup ((List.range' i a).map fun k=>V.int (k:Nat)))) p1=some (.tup ((List.range' i a).map fun k=>V.int (k:Nat))):=ak
 generalize upd H p1 (.tup ((List.range' i a).map fun k=>V.int (k:Nat)))=H1 at s1 e1 ⊢
 refine ⟨_,rfl,_,rfl,_,rfl,sh,_,_,_,rfl,rfl,Cw hsh s1,bw (xs:=[V.int (a:Nat),V.int (b:Nat)]) (j:=1) rfl,_,_,rfl,rfl,_,_,rfl,⟨by omega,by omega,by omega,by omega⟩,by omega,fun p2 hp2=>?_⟩
 rw [kj j b _ (by omega)]
 have s2:=aq hp2 (.tup ((List.range' j b).map fun k=>V.int (k:Nat)))
 have e2:(upd H1 p2 (.tup ((List.range' j b).map fun k=>V.int (k:Nat)))) p2=some (.tup ((List.range' j b).map fun k=>V.int (k:Nat))):=ak
 generalize upd H1 p2 (.tup ((List.range' j b).map fun k=>V.int (k:Nat)))=H2 at s2 e2 ⊢
 refine ⟨smn 2,fun p3 hp3=>?_⟩
 have s3:=aq hp3 (.tup [.ref p1,.ref p2])
 have e3:(upd H2 p3 (.tup [.ref p1,.ref p2])) p3=some (.tup [.ref p1,.ref p2]):=ak
 generalize upd H2 p3 (.tup [.ref p1,.ref p2])=H3 at s3 e3 ⊢
 refine ⟨smn 1,fun p4 hp4=>?_⟩
 have s4:=aq hp4 (.tup [.ref p3])
 have e4:(upd H3 p4 (.tup [.ref p3])) p4=some (.tup [.ref p3]):=ak
 generalize upd H3 p4 (.tup [.ref p3])=H4 at s4 e4 ⊢
 exact k _ H4 (((s1.trans s2).trans s3).trans s4) ⟨p4,_,rfl,e4,⟨p3,_,rfl,s4 _ _ e3,⟨p1,_,rfl,s4 _ _ (s3 _ _ (s2 _ _ e1)),uF _ _⟩,⟨p2,_,rfl,s4 _ _ (s3 _ _ e2),uF _ _⟩,trivial⟩,trivial⟩
theorem wM:aP ["i", "j"] ["i", "j"] (au fZ):=⟨rfl,rfl,rfl,by decide +kernel,rfl,by decide +kernel,by decide +kernel⟩
theorem wK (h:Has K mg "crossed" fZ ["i", "j"])  : Cal P w K mg base "crossed" 1 ["i", "j"] qG:=by
 refine h.mk' wM (fun vs H Q E hs=>?_) (fun f cdv A outer s H vs Q E hr hs=>?_)
 ·obtain ⟨i,j,rfl,_⟩:=hs
  rfl
 obtain ⟨i,j,rfl,k⟩:=hs
 refine ⟨_,(aC (aR (bD (aj (bD (aj (bD (aj (pv 0) ao)) (aj (bD (aj (aX bI (pv 1) aA) ao)) ao))) (aj (bD (aj (bD (aj (aX bI (pv 0) aA) ao)) (aj (bD (aj (pv 1) ao)) ao))) ao))))),?_⟩
 refine ⟨_,rfl,smn 1,fun p1 hp1=>?_⟩
 have s1:=aq hp1 (.tup [.int (i:Nat)])
 have e1:(upd H p1 (.tup [.int (i:Nat)])) p1=some (.tup [.int (i:Nat)]):=ak
 generalize upd H p1 (.tup [.int (i:Nat)])=H1 at s1 e1 ⊢
 refine ⟨_,rfl,_,_,rfl,rfl,smn 1,fun p2 hp2=>?_⟩
 have s2:=aq hp2 (.tup [.int ((j:Nat)+1)])
 have e2:(upd H1 p2 (.tup [.int ((j:Nat)+1)])) p2=some (.tup [.int ((j:Nat)+1)]):=ak
 generalize upd H1 p2 (.tup [.int ((j:Nat)+1)])=H2 at s2 e2 ⊢
 refine ⟨smn 2,fun p3 hp3=>?_⟩
 have s3:=aq hp3 (.tup [.ref p1,.ref p2])
 have e3:(upd H2 p3 (.tup [.ref p1,.ref p2])) p3=some (.tup [.ref p1,.ref p2]):=ak
 generalize upd H2 p3 (.tup [.ref p1,.ref p2])=H3 at s3 e3 ⊢
 refine ⟨_,rfl,_,_,rfl,rfl,smn 1,fun p4 hp4=>?_⟩
 have s4:=aq hp4 (.tup [.int ((i:Nat)+1)])
 have e4:(upd H3 p4 (.tup [.int ((i:Nat)+1)])) p4=some (.tup [.int ((i:Nat)+1)]):=ak
 generalize upd H3 p4 (.tup [.int ((i:Nat)+1)])=H4 at s4 e4 ⊢
 refine ⟨_,rfl,smn 1,fun p5 hp5=>?_⟩
 have s5:=aq hp5 (.tup [.int (j:Nat)])
 have e5:(upd H4 p5 (.tup [.int (j:Nat)])) p5=some (.tup [.int (j:Nat)]):=ak
 generalize upd H4 p5 (.tup [.int (j:Nat)])=H5 at s5 e5 ⊢
 refine ⟨smn 2,fun p6 hp6=>?_⟩
 have s6:=aq hp6 (.tup [.ref p4,.ref p5])
 have e6:(upd H5 p6 (.tup [.ref p4,.ref p5])) p6=some (.tup [.ref p4,.ref p5]):=ak
 generalize upd H5 p6 (.tup [.ref p4,.ref p5])=H6 at s6 e6 ⊢
 refine ⟨smn 2,fun p7 hp7=>?_⟩
 have s7:=aq hp7 (.tup [.ref p3,.ref p6])
 have e7:(upd H6 p7 (.tup [.ref p3,.ref p6])) p7=some (.tup [.ref p3,.ref p6]):=ak
 generalize upd H6 p7 (.tup [.ref p3,.ref p6])=H7 at s7 e7 ⊢
 have s37:=((s4.trans s5).trans s6).trans s7
 have s47:=(s5.trans s6).trans s7
 have s57:=s6.trans s7
 exact k _ H7 (((s1.trans s2).trans s3).trans s37) ⟨p7,_,rfl,e7,⟨p3,_,rfl,s37 _ _ e3,⟨p1,_,rfl,s37 _ _ (s3 _ _ (s2 _ _ e1)),rfl,trivial⟩,⟨p2,_,rfl,s37 _ _ (s3 _ _ e2),rfl,trivial⟩,trivial⟩,⟨p6,_,rfl,s7 _ _ e6,⟨p4,_,rfl,s47 _ _ e4,rfl,trivial⟩,⟨p5,_,rfl,s57 _ _ e5,rfl,trivial⟩,trivial⟩,trivial⟩
theorem Cy:aP ["step"] ["step"] (au gA):=⟨rfl,rfl,rfl,by decide +kernel,rfl,by decide +kernel,by decide +kernel⟩
theorem Cd (h:Has K mg "passed" gA ["step"]) (m_sum:mg "sum" = none) (m_len:mg "len" = none):Cal P w K mg base "passed" 1 ["step"] oE:=by
 refine h.mk' Cy (fun vs H Q E hs=>?_) (fun f cdv A outer s H vs Q E hr hs=>?_)
 ·obtain ⟨v,s,rfl,_⟩:=hs
  rfl
 obtain ⟨v,s,rfl,hv,hl2,hb2,k⟩:=hs
 refine ⟨_,(aC (aR (bD (aj (aG (cV rfl) rfl m_sum boot_sum (aj (aZ ["step"] (au gA) ["ones", "others"] [none,none] rfl rfl rfl (cI (pv 0)) rfl (by decide +kernel) (by decide +kernel) (by decide +kernel) (by decide +kernel) (g:=qW K 2 (dO (cO 0) (dO (cO 1) su))) (hg:=fun cl C s H ex pn E=>cR (n:=2) rfl (aL (aD (i:=0) (by decide +kernel:(["ones", "others"]:List Str).Nodup) rfl (Or.inl rfl) (Or.inr rfl)) (aL (aD (i:=1) (by decide +kernel:(["ones", "others"]:List Str).Nodup) rfl (Or.inl rfl) (Or.inr rfl)) bU))) (ht:=fun cl C s H ex pn E=>bh) (he:=fun cl C s H ex pn E=>(aG (dM (K:=K) rfl) rfl m_len PySem.boot_len (aj (pv 0) ao)))) ao)) (aj (aG (cV rfl) rfl m_sum boot_sum (aj (aZ ["step"] (au gA) ["ones", "others"] [none,none] rfl rfl rfl (cI (pv 0)) rfl (by decide +kernel) (by decide +kernel) (by decide +kernel) (by decide +kernel) (g:=qW K 2 (dO (cO 0) (dO (cO 1) su))) (hg:=fun cl C s H ex pn E=>cR (n:=2) rfl (aL (aD (i:=0) (by decide +kernel:(["ones", "others"]:List Str).Nodup) rfl (Or.inl rfl) (Or.inr rfl)) (aL (aD (i:=1) (by decide +kernel:(["ones", "others"]:List Str).Nodup) rfl (Or.inl rfl) (Or.inr rfl)) bU))) (ht:=fun cl C s H ex pn E=>bh) (he:=fun cl C s H ex pn E=>(aG (dM (K:=K) rfl) rfl m_len PySem.boot_len (aj (pv 1) ao)))) ao)) ao))))),?_⟩
 obtain ⟨q,ls,rfl,hq,dl⟩:=bO hv
 have hll:=dl.len
 rw [List.length_map] at hll
 have hcst:∀ f:Lk→Nat,(s.map fun p=>((f p:Nat):Int)).sum=(((s.map f).sum:Nat):Int):=fun f=>by
  clear hv hl2 hb2 k dl hll
  induction s with
  | nil=>rfl
  | cons p r ih =>
   rw [List.map_cons,List.sum_cons,List.map_cons,List.sum_cons,ih]
   exact (Int.natCast_add _ _).symm
 refine ⟨_,rfl,q,rfl,⟨_,SqT.of hq⟩,fun l hl=>?_⟩
 refine bF (J:=Itt K q) (l:=l) s.length (fun i σ' H'=>∃ v0 v1:Option V,σ'=[v0,v1]∧Same H H'∧H' l=some (.lst (((s.take i).map fun p=>((p.1.length:Nat):Int)).map V.int))) ⟨none,none,rfl,aq hl _,ak⟩ ?_ ?_
 ·rintro σ' H1 ⟨v0,v1,rfl,s1,e1⟩
  rw [List.take_length] at e1
  refine ⟨⟨_,SqT.of (s1 _ _ hq),by omega⟩,l,_,rfl,SqL.of e1,?_⟩
  rw [hcst fun p=>p.1.length]
  refine ⟨_,rfl,q,rfl,⟨_,SqT.of (s1 _ _ hq)⟩,fun m hm=>?_⟩
  refine bF (J:=Itt K q) (l:=m) s.length (fun i σ' H'=>∃ v0 v1:Option V,σ'=[v0,v1]∧Same H1 H'∧H' m=some (.lst (((s.take i).map fun p=>((p.2.length:Nat):Int)).map V.int))) ⟨none,none,rfl,aq hm _,ak⟩ ?_ ?_
  ·rintro σ' H2 ⟨v0,v1,rfl,s2,e2⟩
   rw [List.take_length] at e2
   refine ⟨⟨_,SqT.of (s2 _ _ (s1 _ _ hq)),by omega⟩,m,_,rfl,SqL.of e2,?_⟩
   rw [hcst fun p=>p.2.length]
   refine ⟨smn 2,fun r hr=>?_⟩
   exact k r _ ((s1.trans s2).trans (aq hr _)) ak
  ·rintro x σ' H2 hx ⟨v0,v1,rfl,s2,e2⟩
   have hxl:x < ls.length:=by omega
   have hat:=bB hxl
   refine ⟨⟨_,_,SqT.of (s2 _ _ (s1 _ _ hq)),hat⟩,?_⟩
   rintro y H3 ⟨rfl,hy⟩
   have ey:y=ls[x]:=Option.some.inj ((hy _ (SqT.of (s2 _ _ (s1 _ _ hq)))).symm.trans hat)
   have dy:Den H y (lkD s[x]):=by rw [ey]; exact at_of dl hat (by rw [List.getElem?_map,bB hx]; rfl)
   obtain ⟨c,a,b,rfl,hc,ha,hb⟩:=jG (dy.same (s1.trans s2))
   refine ⟨c,_,rfl,SqT.of hc,rfl,_,_,rfl,_,_,rfl,rfl,jy (gB ?_)⟩
   refine ⟨_,rfl,b,_,rfl,.inr (SqT.of hb),_,e2,?_,_,_,rfl,aU s2 hm,?_⟩
   ·rw [List.length_map,List.length_map,List.length_take]
    exact aH (by omega)
   ·rw [ak,take_one (bB hx),List.map_append,List.map_append,List.length_map]
    rfl
 ·rintro x σ' H1 hx ⟨v0,v1,rfl,s1,e1⟩
  have hxl:x < ls.length:=by omega
  have hat:=bB hxl
  refine ⟨⟨_,_,SqT.of (s1 _ _ hq),hat⟩,?_⟩
  rintro y H3 ⟨rfl,hy⟩
  have ey:y=ls[x]:=Option.some.inj ((hy _ (SqT.of (s1 _ _ hq))).symm.trans hat)
  have dy:Den H y (lkD s[x]):=by rw [ey]; exact at_of dl hat (by rw [List.getElem?_map,bB hx]; rfl)
  obtain ⟨c,a,b,rfl,hc,ha,hb⟩:=jG (dy.same s1)
  refine ⟨c,_,rfl,SqT.of hc,rfl,_,_,rfl,_,_,rfl,rfl,jy (gB ?_)⟩
  refine ⟨_,rfl,a,_,rfl,.inr (SqT.of ha),_,e1,?_,_,_,rfl,aU s1 hl,?_⟩
  ·rw [List.length_map,List.length_map,List.length_take]
   exact aH (by omega)
  ·rw [ak,take_one (bB hx),List.map_append,List.map_append,List.length_map]
   rfl
end
def pick (xs:List Str) (is:List Nat):List Str:=is.map fun k=>xs.getD k Str.empty
def fL (ns:List Int) (xs ys:List Str) (ps:List (Str × Str)) (l:Lk):Int:=if l.1=[]∨l.2=[] then ns.getD 0 0 else costOf ns (pick xs l.1) (pick ys l.2) ps
def bx (ns:List Int) (xs ys:List Str) (ps:List (Str × Str)) (s:Stp):Int:=(s.map (fL ns xs ys ps)).sum+if s.length=2 then ns.getD 2 0 else 0
structure Ef (m n:Nat) (l:Lk):Prop where
 a:∀ k∈l.1,k < m
 b:∀ k∈l.2,k < n
 la:l.1.length≤3
 lb:l.2.length≤3
structure iU (H:Hp) (l1 l2 qp:Addr) (ns:List Int) (xs ys:List Str) (ps:List (Str × Str)):Prop where
 m1:vf H l1 0 xs ps
 m2:vf H l2 1 ys ps
 qp:H qp=some (.tup (ns.map V.int))
 n5:ns.length=5
 tx:∀ x∈xs,x.length≤1000
 ty:∀ x∈ys,x.length≤1000
 pl:ps.length≤1000
theorem iU.same {H H':Hp} {l1 l2 qp:Addr} {ns:List Int} {xs ys:List Str} {ps:List (Str × Str)} (h:iU H l1 l2 qp ns xs ys ps) (s:Same H H'):iU H' l1 l2 qp ns xs ys ps:=⟨h.m1.same s,h.m2.same s,s _ _ h.qp,h.n5,h.tx,h.ty,h.pl⟩
theorem getD_mem {xs:List Str} {k:Nat} (h:k < xs.length):xs.getD k Str.empty∈xs:=by
 rw [List.getD_eq_getElem?_getD,List.getElem?_eq_getElem h]
 exact List.getElem_mem h
theorem j6 {xs:List Str} {is:List Nat} (h:∀ k∈is,k < xs.length) (ht:∀ x∈xs,x.length≤1000):∀ x∈pick xs is,x.length≤1000:=fun x hx=>by
 obtain ⟨k,hk,rfl⟩:=List.mem_map.mp hx
 exact ht _ (getD_mem (h k hk))
theorem vf.pick {H:Hp} {l l':Addr} {side:Nat} {xs:List Str} {ps:List (Str × Str)} {us:List V} {is:List Nat} (el:H l=some (.lst us)) (h:vf H l side xs ps) (hi:∀ k∈is,k < xs.length) (e:H l'=some (.lst (is.map fun k=>us.getD k .non))):vf H l' side (Mine.pick xs is) ps:=by
 obtain ⟨us',e',hl,hk⟩:=h.ex
 rw [el] at e'
 cases e'
 refine ⟨_,e,by unfold Mine.pick; rw [List.length_map,List.length_map],fun i u x hu hx=>?_⟩
 unfold Mine.pick at hx
 rw [List.getElem?_map] at hu hx
 cases hq:is[i]? with
 | none=>rw [hq] at hu; cases hu
 | some k =>
  rw [hq] at hu hx
  have hkx:=hi k (List.mem_of_getElem? hq)
  have eu:us.getD k .non=u:=Option.some.inj hu
  have ex:xs.getD k Str.empty=x:=Option.some.inj hx
  refine hk k u x ?_ ?_
  ·rw [← eu,List.getD_eq_getElem?_getD,List.getElem?_eq_getElem (by omega)]
   rfl
  ·rw [← ex,List.getD_eq_getElem?_getD,List.getElem?_eq_getElem hkx]
   rfl
theorem pN {K:PySem.W.Frag} {l q lb:Addr} {us:List V} {is:List Nat} {H:Hp} {R:Hp→Prop} (el:H l=some (.lst us)) (eq:H q=some (.tup (is.map fun k=>V.int (k:Nat)))) (hi:∀ k∈is,k < us.length) (hn:is.length≤3) (hlb:H lb=none)
  (hfin:∀ H',Same H H'→H' lb=some (.lst (is.map fun k=>us.getD k .non))→R H') :
  ∃ W:Nat→Nat→L2.St→Hp→Prop,(∃ m,W 0 m [some (.ref l),none] (upd H lb (.lst [])))∧∀ i m σ H,W i m σ H →
   ((Itt K q).stop i H∧R H)∨((Itt K q).go i H∧∃ N:L2.St→Hp→Prop,(∀ σ' H',N σ' H'→∃ m',m' < m∧W (i+1) m' σ' H') ∧
    ∀ x H',(Itt K q).yld i H x H'→cO 1 x σ H' fun σ2 H2=>G6 σ2 H2 fun b H3=>if b=true then tOp (HS K) (vo 0) (vo 1) σ2 H3 fun v H4=>∃ ys,H4 lb=some (.lst ys)∧ys.length < sizeLine∧N σ2 (upd H4 lb (.lst (ys++[v]))) else N σ2 H3):=by
 refine bF (J:=Itt K q) (l:=lb) is.length (fun i σ' H'=>∃ v1:Option V,σ'=[some (.ref l),v1]∧Same H H'∧H' lb=some (.lst ((is.take i).map fun k=>us.getD k .non))) ⟨none,rfl,aq hlb _,ak⟩ ?_ ?_
 ·rintro σ' H1 ⟨v1,rfl,s1,e1⟩
  rw [List.take_length] at e1
  exact ⟨⟨_,SqT.of (s1 _ _ eq),by rw [List.length_map]; exact Nat.le_refl _⟩,hfin H1 s1 e1⟩
 ·rintro i σ' H1 hii ⟨v1,rfl,s1,e1⟩
  have hr:(is.map fun k=>V.int (k:Nat))[i]?=some (.int (is[i]:Nat)):=by rw [List.getElem?_map,List.getElem?_eq_getElem hii]; rfl
  refine ⟨⟨_,_,SqT.of (s1 _ _ eq),hr⟩,?_⟩
  rintro y H2 ⟨rfl,hy⟩
  have ey:y=.int (is[i]:Nat):=Option.some.inj ((hy _ (SqT.of (s1 _ _ eq))).symm.trans hr)
  subst ey
  have hik:=hi _ (List.getElem_mem hii)
  have htk:(is.take (i+1)).map (fun k=>us.getD k V.non)=(is.take i).map (fun k=>us.getD k V.non)++[us.getD is[i] .non]:=by rw [List.take_add_one,List.getElem?_eq_getElem hii,List.map_append]; rfl
  rw [htk]
  have hat:atI us ((is[i]:Nat):Int)=some (us.getD is[i] .non):=bw (by rw [List.getElem?_eq_getElem hik,List.getD_eq_getElem?_getD,List.getElem?_eq_getElem hik]; rfl)
  refine gN (jy (gB ⟨_,rfl,_,rfl,l,_,_,_,rfl,rfl,SqL.of (s1 _ _ el),hat,_,e1,aH (by rw [List.length_map,List.length_take]; omega),_,rfl,fun x u z=>?_,ak⟩))
  rw [aM (aF z hlb)]
  exact s1 _ _ z
def mz:Sp:=fun vs H Q _=>∃ (v:V) (l1 l2 qp:Addr) (lk:Lk) (ns:List Int) (xs ys:List Str) (ps:List (Str × Str)),vs=[v,.ref l1,.ref l2,.ref qp]∧Den H v (lkD lk)∧Ef xs.length ys.length lk∧iU H l1 l2 qp ns xs ys ps∧∀ H',Same H H'→Q (.int (fL ns xs ys ps lk)) H'
def jz:Sp:=fun vs H Q _=>∃ (v:V) (l1 l2 qp:Addr) (s:Stp) (ns:List Int) (xs ys:List Str) (ps:List (Str × Str)),vs=[v,.ref l1,.ref l2,.ref qp]∧Den H v (stD s)∧(∀ l∈s,Ef xs.length ys.length l)∧s.length≤2∧iU H l1 l2 qp ns xs ys ps∧∀ H',Same H H'→Q (.int (bx ns xs ys ps s)) H'
section
open M01
variable {P:Program} {w:World} {K:PySem.W.Frag} {mg:Str→Option Value} {base:Heap}
theorem jw:aP ["link", "left", "right", "prices", "ones", "others"] ["link", "left", "right", "prices"] (au dI):=⟨rfl,rfl,rfl,by decide +kernel,rfl,by decide +kernel,by decide +kernel⟩
theorem rQ (h:Has K mg "link_cost" dI ["link", "left", "right", "prices"]) (C_measured_cost:Cal P w K mg base "measured_cost" 2 ["ones", "others", "prices"] xr) (m_len:mg "len" = none) {t_OUT:Tok} (q_OUT:mg "OUT" = some (.int 0 t_OUT)):Cal P w K mg base "link_cost" 3 ["link", "left", "right", "prices"] mz:=by
 refine h.mk' jw (fun vs H Q E hs=>?_) (fun f cdv A outer s H vs Q E hr hs=>?_)
 ·obtain ⟨v,l1,l2,qp,lk,ns,xs,ys,ps,rfl,_⟩:=hs
  rfl
 obtain ⟨v,l1,l2,qp,lk,ns,xs,ys,ps,rfl,hv,hin,hC,k⟩:=hs
 refine ⟨_,(aB (dW (PW.pt (Br (aY gG (aG aQ rfl m_len PySem.boot_len (aj (bA bH (pv 0) aA (fun _ _=>rfl)) ao)) aA (bG _)) (uN (aY gG (aG aQ rfl m_len PySem.boot_len (aj (bA bH (pv 0) aA (fun _ _=>rfl)) ao)) aA (bG _)))))
   (aC (aR (bA bH (pv 3) (jD (v:=.int 0) rfl q_OUT ⟨t_OUT,rfl⟩) (fun _ _=>rfl))))
   bK)
  (aB (lE (ix:=4) jw.nd rfl rfl ["link", "left", "right", "prices", "ones", "others"] (au dI) ["left", "place"] [some 1,none] rfl rfl rfl (cI (bA bH (pv 0) aA (fun _ _=>rfl))) rfl (by decide +kernel) (by decide +kernel) (by decide +kernel) (by decide +kernel) (hg:=fun cl C s H ex pn E=>(aD (i:=1) (by decide +kernel:(["left", "place"]:List Str).Nodup) rfl (Or.inl rfl))) (ht:=fun cl C s H ex pn E=>bh) (he:=fun cl C s H ex pn E=>(bA (dG (K:=K) rfl) (pv 0) (pv 1) (fun _ _=>rfl))))
  (aB (lE (ix:=5) jw.nd rfl rfl ["link", "left", "right", "prices", "ones", "others"] (au dI) ["right", "place"] [some 2,none] rfl rfl rfl (cI (bA bH (pv 0) aA (fun _ _=>rfl))) rfl (by decide +kernel) (by decide +kernel) (by decide +kernel) (by decide +kernel) (hg:=fun cl C s H ex pn E=>(aD (i:=1) (by decide +kernel:(["right", "place"]:List Str).Nodup) rfl (Or.inl rfl))) (ht:=fun cl C s H ex pn E=>bh) (he:=fun cl C s H ex pn E=>(bA (dG (K:=K) rfl) (pv 0) (pv 1) (fun _ _=>rfl))))
  (aC (aR (aK C_measured_cost hr (by decide) rfl (aj (pv 4) (aj (pv 5) (aj (pv 3) ao))))))))),?_⟩
 obtain ⟨t,a,b,rfl,ht,ha,hb⟩:=jG hv
 have at0:atI (ns.map V.int) 0=some (.int (ns.getD 0 0)):=bw (j:=0) (int_at (by have:=hC.n5; omega))
 have n0:∀ {is:List Nat},decide (V.int (((is.map fun k=>V.int (k:Nat)).length:Nat):Int)=V.int 0)=decide (is=[]):=fun {is}=>by
  rw [List.length_map]
  cases is with
  | nil=>rfl
  | cons x is=>rw [decide_eq_false (fun z=>by injection z with z; rw [List.length_cons] at z; omega),decide_eq_false (by simp)]
 refine ⟨_,rfl,t,_,_,_,rfl,rfl,SqT.of ht,cD _ _,a,_,rfl,.inr (SqT.of ha),rfl,_,rfl,?_⟩
 rw [n0]
 refine dR (fun c1=>?_) (fun c1=>?_)
 ·refine gB ⟨_,rfl,qp,_,_,_,rfl,rfl,SqT.of hC.qp,at0,?_⟩
  have:=k H (Same.refl _)
  unfold fL at this
  rw [if_pos (.inl (of_decide_eq_true c1))] at this
  exact this
 refine ⟨_,rfl,t,_,_,_,rfl,rfl,SqT.of ht,bw (xs:=[V.ref a,V.ref b]) (j:=1) rfl,b,_,rfl,.inr (SqT.of hb),rfl,_,rfl,?_⟩
 rw [n0]
 refine dR (fun c2=>?_) (fun c2=>?_)
 ·refine ⟨_,rfl,qp,_,_,_,rfl,rfl,SqT.of hC.qp,at0,?_⟩
  have:=k H (Same.refl _)
  unfold fL at this
  rw [if_pos (.inr (of_decide_eq_true c2))] at this
  exact this
 have hne:¬ (lk.1=[]∨lk.2=[]):=fun z=>z.elim (fun y=>c1 (decide_eq_true y)) fun y=>c2 (decide_eq_true y)
 obtain ⟨us,e1,hu1,_⟩:=id hC.m1.ex
 obtain ⟨ws,e2,hu2,_⟩:=id hC.m2.ex
 refine ⟨_,rfl,t,_,_,_,rfl,rfl,SqT.of ht,cD _ _,a,rfl,⟨_,SqT.of ha⟩,fun l4 hl4=>?_⟩
 refine pN e1 ha (fun k hk=>by rw [hu1]; exact hin.a k hk) hin.la hl4 fun H4 s4 e4=>?_
 refine gN ⟨_,rfl,t,_,_,_,rfl,rfl,SqT.of (s4 _ _ ht),bw (xs:=[V.ref a,V.ref b]) (j:=1) rfl,b,rfl,⟨_,SqT.of (s4 _ _ hb)⟩,fun l5 hl5=>?_⟩
 refine pN (s4 _ _ e2) (s4 _ _ hb) (fun k hk=>by rw [hu2]; exact hin.b k hk) hin.lb hl5 fun H5 s5 e5=>?_
 have s45:=s4.trans s5
 refine gN ⟨_,rfl,_,rfl,_,rfl,l4,l5,qp,pick xs lk.1,pick ys lk.2,ps,ns,rfl,(hC.m1.same s45).pick (s45 _ _ e1) hin.a (s5 _ _ e4),(hC.m2.same s45).pick (s45 _ _ e2) hin.b e5,by unfold pick; rw [List.length_map]; exact hin.la,by unfold pick; rw [List.length_map]; exact hin.lb,j6 hin.a hC.tx,j6 hin.b hC.ty,hC.pl,s45 _ _ hC.qp,hC.n5,fun H6 s6=>?_⟩
 have:=k H6 (s45.trans s6)
 unfold fL at this
 rw [if_neg hne] at this
 exact this
theorem mQ:aP ["step", "left", "right", "prices", "cost"] ["step", "left", "right", "prices"] (au d7):=⟨rfl,rfl,rfl,by decide +kernel,rfl,by decide +kernel,by decide +kernel⟩
theorem rJ (h:Has K mg "step_cost" d7 ["step", "left", "right", "prices"]) (C_link_cost:Cal P w K mg base "link_cost" 3 ["link", "left", "right", "prices"] mz) (m_sum:mg "sum" = none) (m_len:mg "len" = none) {t_CROSS:Tok} (q_CROSS:mg "CROSS" = some (.int 2 t_CROSS)):Cal P w K mg base "step_cost" 4 ["step", "left", "right", "prices"] jz:=by
 refine h.mk' mQ (fun vs H Q E hs=>?_) (fun f cdv A outer s H vs Q E hr hs=>?_)
 ·obtain ⟨v,l1,l2,qp,st,ns,xs,ys,ps,rfl,_⟩:=hs
  rfl
 obtain ⟨v,l1,l2,qp,st,ns,xs,ys,ps,rfl,hv,hin,hl2,hC,k⟩:=hs
 refine ⟨_,(aB (aW (i:=4) mQ.nd rfl (Or.inl rfl) (aG (cV rfl) rfl m_sum boot_sum (aj (aZ ["step", "left", "right", "prices", "cost"] (au d7) ["left", "right", "prices", "link"] [some 1,some 2,some 3,none] rfl rfl rfl (cI (pv 0)) rfl (by decide +kernel) (by decide +kernel) (by decide +kernel) (by decide +kernel) (hg:=fun cl C s H ex pn E=>(aD (i:=3) (by decide +kernel:(["left", "right", "prices", "link"]:List Str).Nodup) rfl (Or.inl rfl))) (ht:=fun cl C s H ex pn E=>bh) (he:=fun cl C s H ex pn E=>(aK C_link_cost hr (by decide) rfl (aj (pv 3) (aj (pv 0) (aj (pv 1) (aj (pv 2) ao))))))) ao)))
  (aC (aR (tQ (aY gG (aG aQ rfl m_len PySem.boot_len (aj (pv 0) ao)) aA (bG _)) (aX bI (pv 4) (bA bH (pv 3) (jD (v:=.int 2) rfl q_CROSS ⟨t_CROSS,rfl⟩) (fun _ _=>rfl))) (pv 4))))),?_⟩
 obtain ⟨q,ls,rfl,hq,dl⟩:=bO hv
 have hll:=dl.len
 rw [List.length_map] at hll
 refine ⟨_,rfl,q,rfl,⟨_,SqT.of hq⟩,fun lc hlc=>?_⟩
 refine bF (J:=Itt K q) (l:=lc) st.length (fun i σ' H'=>∃ v3:Option V,σ'=[some (.ref l1),some (.ref l2),some (.ref qp),v3]∧Same H H'∧H' lc=some (.lst (((st.take i).map (fL ns xs ys ps)).map V.int))) ⟨none,rfl,aq hlc _,ak⟩ ?_ ?_
 ·rintro σ' H1 ⟨v3,rfl,s1,e1⟩
  rw [List.take_length] at e1
  refine ⟨⟨_,SqT.of (s1 _ _ hq),by omega⟩,lc,_,rfl,SqL.of e1,gN ?_⟩
  refine ⟨_,rfl,q,_,rfl,.inr (SqT.of (s1 _ _ hq)),rfl,_,rfl,?_⟩
  have hk:=k H1 s1
  unfold bx at hk
  have en:decide (V.int ((ls.length:Nat):Int)=V.int 2)=decide (st.length=2):=by
   rw [hll]
   by_cases h:st.length=2
   ·rw [decide_eq_true h,h]
    rfl
   ·rw [decide_eq_false h,decide_eq_false fun z=>by injection z with z; omega]
  rw [en]
  refine dR (fun c=>?_) (fun c=>?_)
  ·rw [if_pos (of_decide_eq_true c)] at hk
   exact ⟨_,rfl,_,rfl,qp,_,_,_,rfl,rfl,SqT.of (s1 _ _ hC.qp),bw (j:=2) (int_at (by have:=hC.n5; omega)),_,_,rfl,rfl,hk⟩
  ·rw [if_neg fun z=>c (decide_eq_true z),Int.add_zero] at hk
   exact ⟨_,rfl,hk⟩
 ·rintro i σ' H1 hi ⟨v3,rfl,s1,e1⟩
  have hil:i < ls.length:=by omega
  refine ⟨⟨_,_,SqT.of (s1 _ _ hq),List.getElem?_eq_getElem hil⟩,?_⟩
  rintro y H2 ⟨rfl,hy⟩
  have ey:y=ls[i]:=Option.some.inj ((hy _ (SqT.of (s1 _ _ hq))).symm.trans (List.getElem?_eq_getElem hil))
  have dy:Den H ls[i] (lkD st[i]):=at_of dl (List.getElem?_eq_getElem hil) (by rw [List.getElem?_map,List.getElem?_eq_getElem hi]; rfl)
  have hini:=hin _ (List.getElem_mem hi)
  have htk:((st.take (i+1)).map (fL ns xs ys ps)).map V.int=((st.take i).map (fL ns xs ys ps)).map V.int++[.int (fL ns xs ys ps st[i])]:=by rw [List.take_add_one,List.getElem?_eq_getElem hi,List.map_append,List.map_append]; rfl
  rw [htk]
  rw [← ey] at dy
  generalize st[i]=lk at dy hini ⊢
  refine gN (jy (gB ⟨_,rfl,_,rfl,_,rfl,_,rfl,y,l1,l2,qp,lk,ns,xs,ys,ps,rfl,dy.same s1,hini,hC.same s1,fun H3 s3=>?_⟩))
  have s13:=s1.trans s3
  refine ⟨_,s3 _ _ e1,aH (by rw [List.length_map,List.length_map,List.length_take]; omega),_,rfl,fun x u z=>?_,ak⟩
  rw [aM (aF z hlc)]
  exact s13 _ _ z
end
def iH:Sp:=fun vs H Q _=>∃ (i j m n:Nat),vs=[.int (i:Nat),.int (j:Nat),.int (m:Nat),.int (n:Nat)]∧i≤m∧j≤n∧m≤900∧n≤900∧∀ (q:Addr) (us:List V) (ss:List Stp) (H':Hp),Same H H'→H' q=some (.tup us)→cQ H' us (ss.map stD)→ss.Perm (aJ i j m n)→Q (.ref q) H'
theorem qQ {α β:Type} {f:α→β} {xs ds:List β} (h:xs.Perm ds):∀ {l:List α},l.map f=xs→∃ ss:List α,ss.Perm l∧ds=ss.map f:=by
 induction h with
 | nil=>intro l e; exact ⟨[],by rw [List.map_eq_nil_iff.mp e],rfl⟩
 | cons x _ ih =>
  intro l e
  cases l with
  | nil=>cases e
  | cons y l =>
   rw [List.map_cons] at e
   injection e with e1 e2
   obtain ⟨ss,p,q⟩:=ih e2
   exact ⟨y :: ss,p.cons y,by rw [List.map_cons,e1,q]⟩
 | swap x y zs =>
  intro l e
  match l,e with
  | a :: b :: l,e =>
   rw [List.map_cons,List.map_cons] at e
   injection e with e1 e2
   injection e2 with e2 e3
   exact ⟨b :: a :: l,List.Perm.swap a b l,by rw [List.map_cons,List.map_cons,e1,e2,e3]⟩
 | trans _ _ ih1 ih2 =>
  intro l e
  obtain ⟨ss,p,q⟩:=ih1 e
  obtain ⟨ts,p2,q2⟩:=ih2 q.symm
  exact ⟨ts,p2.trans p,q2⟩
theorem kh {α:Type} {f:α→D} (h:∀ x y,Sim (f x) (f y)):∀ xs ys:List α,qH (xs.map f) (ys.map f)
 | [],_=>Dh _
 | _ :: _,[]=>HW _
 | x :: xs,y :: ys=>zq (h x y) (kh h xs ys)
theorem Ea (a b:Stp):Sim (stD a) (stD b):=z6 (kh (fun x y=>z6 (zq (z6 (kh (f:=fun i:Nat=>D.int (i:Nat)) (fun _ _=>trivial) _ _)) (zq (z6 (kh (f:=fun i:Nat=>D.int (i:Nat)) (fun _ _=>trivial) _ _)) (Dh _)))) _ _)
theorem yr {xs:List Nat} (h:xs.length≤1000):iT 1 (nD xs):=by
 refine ⟨(fun z=>nomatch z),fun ds e=>?_⟩
 cases e
 refine ⟨by rw [List.length_map]; omega,fun d hd=>?_⟩
 obtain ⟨x,_,rfl⟩:=List.mem_map.mp hd
 exact mZ _
theorem rK {s:Stp} (h:s.length≤1000) (hl:∀ l∈s,l.1.length≤1000∧l.2.length≤1000):iT 3 (stD s):=by
 refine ⟨(fun z=>nomatch z),fun ds e=>?_⟩
 cases e
 refine ⟨by rw [List.length_map]; omega,fun d hd=>?_⟩
 obtain ⟨l,hm,rfl⟩:=List.mem_map.mp hd
 refine ⟨(fun z=>nomatch z),fun es e=>?_⟩
 cases e
 refine ⟨by show 2≤100000; decide,fun d hd=>?_⟩
 rcases List.mem_cons.mp hd with rfl | hd
 ·exact yr (hl l hm).1
 ·rw [List.mem_singleton.mp hd]
  exact yr (hl l hm).2
theorem qI {n m:Nat} {d:D} (h:iT n d) (hnm:n≤m):iT m d:=by
 induction hnm with
 | refl=>exact h
 | step _ ih=>exact ih.up
theorem dz {i j m n:Nat} {s:Stp} (h:s∈aJ i j m n):1≤s.length∧s.length≤2∧∀ l∈s,Ef m n l:=by
 rcases List.mem_append.mp h with h | h
 ·obtain ⟨p,hp,rfl⟩:=List.mem_map.mp h
  obtain ⟨hm,hc⟩:=List.mem_filter.mp hp
  have hc:=of_decide_eq_true hc
  have h3:p.1≤3∧p.2≤3:=(by decide:∀ p∈shapes,p.1≤3∧p.2≤3) p hm
  refine ⟨Nat.le_refl _,by show 1≤2; decide,fun l hl=>?_⟩
  rw [List.mem_singleton.mp hl]
  refine ⟨fun k hk=>?_,fun k hk=>?_,by show (List.range' i p.1).length≤3; rw [List.length_range']; exact h3.1,by show (List.range' j p.2).length≤3; rw [List.length_range']; exact h3.2⟩
  ·obtain ⟨t,ht,e⟩:=List.mem_range'.mp hk
   omega
  ·obtain ⟨t,ht,e⟩:=List.mem_range'.mp hk
   omega
 ·split at h
  ·rename_i hc
   rw [List.mem_singleton.mp h]
   refine ⟨by show 1≤2; decide,Nat.le_refl _,fun l hl=>?_⟩
   simp only [crs,List.mem_cons,List.not_mem_nil,or_false] at hl
   rcases hl with rfl | rfl
   ·exact ⟨fun k hk=>by simp at hk; omega,fun k hk=>by simp at hk; omega,by simp,by simp⟩
   ·exact ⟨fun k hk=>by simp at hk; omega,fun k hk=>by simp at hk; omega,by simp,by simp⟩
  ·cases h
theorem jf (i j m n:Nat):(aJ i j m n).length≤8:=by
 unfold aJ
 rw [List.length_append,List.length_map]
 have:=List.length_filter_le (fun s:Nat × Nat=>decide (i+s.1≤m∧j+s.2≤n)) shapes
 have e:shapes.length=7:=rfl
 split
 ·rw [List.length_singleton]; omega
 ·rw [List.length_nil]; omega
section
variable {P:Program} {w:World} {K:PySem.W.Frag} {mg:Str→Option Value} {base:Heap}
theorem lH:aP ["i", "j", "m", "n", "steps"] ["i", "j", "m", "n"] (au dj):=⟨rfl,rfl,rfl,by decide +kernel,rfl,by decide +kernel,by decide +kernel⟩
theorem pq (h:Has K mg "steps_from" dj ["i", "j", "m", "n"]) (C_one_link:Cal P w K mg base "one_link" 1 ["i", "j", "shape"] (Jf K)) (C_crossed:Cal P w K mg base "crossed" 1 ["i", "j"] qG) (m_tuple:mg "tuple" = none) (m_sorted:mg "sorted" = none) {t_SHAPES:Addr} (q_SHAPES:mg "SHAPES" = some (.ref t_SHAPES)) (kt_SHAPES:yu K t_SHAPES shapes):Cal P w K mg base "steps_from" 2 ["i", "j", "m", "n"] iH:=by
 refine h.mk' lH (fun vs H Q E hs=>?_) (fun f cdv A outer s H vs Q E hr hs=>?_)
 ·obtain ⟨i,j,m,n,rfl,_⟩:=hs
  rfl
 obtain ⟨i,j,m,n,rfl,hi,hj,hm,hn,k⟩:=hs
 refine ⟨_,(aB (lE (ix:=4) lH.nd rfl rfl ["i", "j", "m", "n", "steps"] (au dj) ["i", "j", "m", "n", "shape"] [some 0,some 1,some 2,some 3,none] rfl rfl rfl (cI (jD (v:=.ref t_SHAPES) rfl q_SHAPES rfl)) rfl (by decide +kernel) (by decide +kernel) (by decide +kernel) (by decide +kernel) (hg:=fun cl C s H ex pn E=>(aD (i:=4) (by decide +kernel:(["i", "j", "m", "n", "shape"]:List Str).Nodup) rfl (Or.inl rfl))) (ht:=fun cl C s H ex pn E=>(jc (PW.pt (iy (aY qK (aX bI (pv 0) (bA (rP (K:=K) rfl) (pv 4) aA (fun _ _=>rfl))) (pv 2) (bG _)) (iI (aY qK (aX bI (pv 1) (bA (rP (K:=K) rfl) (pv 4) aA (fun _ _=>rfl))) (pv 3) (bG _))))))) (he:=fun cl C s H ex pn E=>(aK C_one_link hr (by decide) rfl (aj (pv 0) (aj (pv 1) (aj (pv 4) ao))))))
  (aB (dW (PW.pt (iy (aY qK (aX bI (pv 0) aA) (pv 2) (bG _)) (iI (aY qK (aX bI (pv 1) aA) (pv 3) (bG _)))))
   (aC (eN (iw PySem.F.plainAttrs_list PySem.F.slot_list_append PySem.F.type_list_append cH (pv 4) (aj (aK C_crossed hr (by decide) rfl (aj (pv 0) (aj (pv 1) ao))) ao))))
   bK)
  (aC (aR (bV bM rfl m_tuple boot_tuple (aj (aG (oV hr.units) rfl m_sorted boot_sorted (aj (pv 4) ao)) ao)))))),?_⟩
 obtain ⟨as,hT,hP⟩:=kt_SHAPES
 refine ⟨t_SHAPES,rfl,⟨_,hT.sq⟩,fun lc hlc=>?_⟩
 have hal:=hP.len
 have h7:shapes.length=7:=rfl
 refine bF (J:=Itt K t_SHAPES) (l:=lc) shapes.length (fun x σ' H'=>∃ (v4:Option V) (us:List V),σ'=[some (.int (i:Nat)),some (.int (j:Nat)),some (.int (m:Nat)),some (.int (n:Nat)),v4]∧Same H H'∧H' lc=some (.lst us)∧cQ H' us ((((shapes.take x).filter fun s=>decide (i+s.1≤m∧j+s.2≤n)).map (one i j)).map stD)∧us.length≤x) ⟨none,[],rfl,aq hlc _,ak,trivial,Nat.le_refl _⟩ ?_ ?_
 ·rintro σ' H1 ⟨v4,us,rfl,s1,e1,d1,hul⟩
  rw [List.take_length] at d1
  refine ⟨⟨_,hT.sq,by rw [List.length_map]; omega⟩,gN ?_⟩
  have fin:∀ (us:List V) (H2:Hp) ,Same H H2→H2 lc=some (.lst us)→cQ H2 us ((aJ i j m n).map stD)→∀ (l:Addr) (us':List V) (ds':List D),H2 l=none→ds'.Perm ((aJ i j m n).map stD)→cQ H2 us' ds'→∀ q,(upd H2 l (.lst us')) q=none→Q (.ref q) (upd (upd H2 l (.lst us')) q (.tup us')):=fun us H2 s2 e2 d2 l us' ds' hl pm d' q hq=>by
   obtain ⟨ss,hss,e⟩:=qQ pm.symm rfl
   rw [e] at d'
   have sn:=(aq hl (.lst us')).trans (aq hq (.tup us'))
   exact k q us' ss _ (s2.trans sn) ak (d'.same sn) hss
  have hom:Hom ((aJ i j m n).map stD):=by
   refine ⟨fun a ha b hb=>?_,.inr (.inr fun d hd=>?_)⟩
   ·obtain ⟨x,_,rfl⟩:=List.mem_map.mp ha
    obtain ⟨y,_,rfl⟩:=List.mem_map.mp hb
    exact Ea x y
   ·obtain ⟨x,hx,rfl⟩:=List.mem_map.mp hd
    have:=(dz hx).1
    cases x with
    | nil=>cases this
    | cons p r=>exact ⟨_,_,rfl⟩
  have hsh:∀ d∈(aJ i j m n).map stD,iT 50 d:=fun d hd=>by
   obtain ⟨x,hx,rfl⟩:=List.mem_map.mp hd
   obtain ⟨_,h2,h3⟩:=dz hx
   exact qI (rK (by omega) fun l hl=>⟨Nat.le_trans (h3 l hl).la (by decide),Nat.le_trans (h3 l hl).lb (by decide)⟩) (by decide)
  have hsl:((aJ i j m n).map stD).length < 64:=by
   rw [List.length_map]
   have:=jf i j m n
   omega
  refine ⟨_,rfl,_,_,rfl,rfl,_,rfl,_,_,rfl,rfl,_,rfl,?_⟩
  refine dR (fun c1=>?_) (fun c1=>qM ?_)
  ·refine ⟨_,rfl,_,_,rfl,rfl,_,rfl,_,_,rfl,rfl,_,rfl,?_⟩
   refine dR (fun c2=>?_) (fun c2=>?_)
   ·have c1':=of_decide_eq_true c1
    have c2':=of_decide_eq_true c2
    refine ⟨_,rfl,.inl ⟨rfl,_,SqL.of e1⟩,_,rfl,_,rfl,i,j,rfl,fun r H2 s2 d2=>?_⟩
    have elc:=s2 _ _ e1
    have kt:∀ (b:Addr) (vs:List V),H2 b=some (.tup vs)→(upd H2 lc (.lst (us++[r]))) b=some (.tup vs):=fun b vs e=>by
     rw [aM (lZ e elc (by intro z; cases z))]
     exact e
    refine ⟨lc,us,r,rfl,rfl,elc,aH (by omega),?_⟩
    have sF:Same H (upd H2 lc (.lst (us++[r]))):=fun x u z=>by
     rw [aM (aF z hlc)]
     exact s2 _ _ (s1 _ _ z)
    have dF:cQ (upd H2 lc (.lst (us++[r]))) (us++[r]) ((aJ i j m n).map stD):=by
     unfold aJ
     rw [if_pos (by omega),List.map_append]
     exact ((d1.same s2).keepT kt).snoc (d2.keepT kt)
    exact ⟨_,rfl,lc,_,_,rfl,.inl (SqL.of ak),dF,hom,hsl,hsh,fun l us' ds' hl pm up d'=>⟨l,us',rfl,.inl ⟨SqL.of ak,fun q hq=>fin _ _ sF ak dF l us' ds' hl pm d' q hq⟩⟩⟩
   ·have dF:cQ H1 us ((aJ i j m n).map stD):=by
     unfold aJ
     rw [if_neg fun z=>c2 (decide_eq_true (by omega)),List.append_nil]
     exact d1
    exact ⟨_,rfl,lc,_,_,rfl,.inl (SqL.of e1),dF,hom,hsl,hsh,fun l us' ds' hl pm up d'=>⟨l,us',rfl,.inl ⟨SqL.of ak,fun q hq=>fin _ _ s1 e1 dF l us' ds' hl pm d' q hq⟩⟩⟩
  ·have dF:cQ H1 us ((aJ i j m n).map stD):=by
    unfold aJ
    rw [if_neg fun z=>c1 (decide_eq_true (by omega)),List.append_nil]
    exact d1
   exact ⟨_,rfl,lc,_,_,rfl,.inl (SqL.of e1),dF,hom,hsl,hsh,fun l us' ds' hl pm up d'=>⟨l,us',rfl,.inl ⟨SqL.of ak,fun q hq=>fin _ _ s1 e1 dF l us' ds' hl pm d' q hq⟩⟩⟩
 ·rintro x σ' H1 hx ⟨v4,us,rfl,s1,e1,d1,hul⟩
  have hxa:x < as.length:=by omega
  have hat:(as.map V.ref)[x]?=some (.ref as[x]):=by rw [List.getElem?_map,List.getElem?_eq_getElem hxa]; rfl
  refine ⟨⟨_,_,hT.sq,hat⟩,?_⟩
  rintro y H2 ⟨rfl,hy⟩
  have ey:y=.ref as[x]:=Option.some.inj ((hy _ hT.sq).symm.trans hat)
  subst ey
  have hK:=hP.at_ (List.getElem?_eq_getElem hxa) (List.getElem?_eq_getElem hx)
  have h3:shapes[x].1≤3∧shapes[x].2≤3:=(by decide:∀ p∈shapes,p.1≤3∧p.2≤3) _ (List.getElem_mem hx)
  have htk:shapes.take (x+1)=shapes.take x++[shapes[x]]:=by rw [List.take_add_one,List.getElem?_eq_getElem hx]; rfl
  rw [htk,List.filter_append,List.map_append,List.map_append]
  generalize shapes[x]=pp at hK h3 ⊢
  generalize as[x]=a at hK ⊢
  have no:¬ (i+pp.1≤m∧j+pp.2≤n)→([pp].filter fun s=>decide (i+s.1≤m∧j+s.2≤n))=[]:=fun z=>List.filter_cons_of_neg (by rw [decide_eq_true_eq]; exact z)
  refine gN ⟨_,rfl,_,rfl,a,_,_,_,rfl,rfl,hK.sq,cD _ _,_,_,rfl,rfl,_,rfl,_,_,rfl,rfl,_,rfl,?_⟩
  refine dR (fun c1=>?_) (fun c1=>qM ?_)
  ·refine ⟨_,rfl,_,rfl,a,_,_,_,rfl,rfl,hK.sq,bw (xs:=[V.int (pp.1:Nat),V.int (pp.2:Nat)]) (j:=1) rfl,_,_,rfl,rfl,_,rfl,_,_,rfl,rfl,_,rfl,?_⟩
   refine dR (fun c2=>?_) (fun c2=>?_)
   ·have c1':=of_decide_eq_true c1
    have c2':=of_decide_eq_true c2
    have yes:([pp].filter fun s=>decide (i+s.1≤m∧j+s.2≤n))=[pp]:=List.filter_cons_of_pos (by rw [decide_eq_true_eq]; omega)
    rw [yes]
    refine ⟨_,rfl,_,rfl,_,rfl,i,j,pp.1,pp.2,a,rfl,hK.sq,by omega,by omega,h3.1,h3.2,fun r H3 s3 d3=>?_⟩
    have elc:=s3 _ _ e1
    have kt:∀ (b:Addr) (vs:List V),H3 b=some (.tup vs)→(upd H3 lc (.lst (us++[r]))) b=some (.tup vs):=fun b vs e=>by
     rw [aM (lZ e elc (by intro z; cases z))]
     exact e
    refine ⟨us,elc,aH (by omega),_,us++[r],rfl,fun x u z=>?_,ak,((d1.same s3).keepT kt).snoc (d3.keepT kt),by rw [List.length_append,List.length_singleton]; omega⟩
    rw [aM (aF z hlc)]
    exact s3 _ _ (s1 _ _ z)
   ·rw [no fun z=>c2 (decide_eq_true (by omega)),List.map_nil,List.map_nil,List.append_nil]
    exact ⟨_,us,rfl,s1,e1,d1,by omega⟩
  ·rw [no fun z=>c1 (decide_eq_true (by omega)),List.map_nil,List.map_nil,List.append_nil]
   exact ⟨_,us,rfl,s1,e1,d1,by omega⟩
end
def psD (c:Stp→Int) (i j:Nat) (s:Stp):D:=.tup [stD s,.int (c s),.tup [.int ((i+sz1 s:Nat):Int),.int ((j+sz2 s:Nat):Int)]]
def sJ:Sp:=fun vs H Q _=>∃ (i j:Nat) (l1 l2 qp:Addr) (ns:List Int) (xs ys:List Str) (ps:List (Str × Str)),vs=[.int (i:Nat),.int (j:Nat),.ref l1,.ref l2,.ref qp]∧iU H l1 l2 qp ns xs ys ps∧i≤xs.length∧j≤ys.length∧xs.length≤900∧ys.length≤900 ∧
 ∀ (l:Addr) (us:List V) (ss:List Stp) (H':Hp),Same H H'→H l=none→H' l=some (.lst us)→cQ H' us (ss.map (psD (bx ns xs ys ps) i j))→ss.Perm (aJ i j xs.length ys.length)→Q (.ref l) H'
section
variable {P:Program} {w:World} {K:PySem.W.Frag} {mg:Str→Option Value} {base:Heap}
theorem dN:aP ["i", "j", "left", "right", "prices", "found", "step", "counts", "end"] ["i", "j", "left", "right", "prices"] (au cP):=⟨rfl,rfl,rfl,by decide +kernel,rfl,by decide +kernel,by decide +kernel⟩
theorem lU (h:Has K mg "priced_steps" cP ["i", "j", "left", "right", "prices"]) (C_steps_from:Cal P w K mg base "steps_from" 2 ["i", "j", "m", "n"] iH) (C_passed:Cal P w K mg base "passed" 1 ["step"] oE) (C_step_cost:Cal P w K mg base "step_cost" 4 ["step", "left", "right", "prices"] jz) (m_len:mg "len" = none):Cal P w K mg base "priced_steps" 5 ["i", "j", "left", "right", "prices"] sJ:=by
 refine h.mk' dN (fun vs H Q E hs=>?_) (fun f cdv A outer s H vs Q E hr hs=>?_)
 ·obtain ⟨i,j,l1,l2,qp,ns,xs,ys,ps,rfl,_⟩:=hs
  rfl
 obtain ⟨i,j,l1,l2,qp,ns,xs,ys,ps,rfl,hC,hi,hj,hm,hn,k⟩:=hs
 refine ⟨_,(aB (aW (i:=5) dN.nd rfl (Or.inl rfl) (cU ao))
  (aB (cW PassesOwn.never rfl (cI (aK C_steps_from hr (by decide) rfl (aj (pv 0) (aj (pv 1) (aj (aG aQ rfl m_len PySem.boot_len (aj (pv 2) ao)) (aj (aG aQ rfl m_len PySem.boot_len (aj (pv 3) ao)) ao)))))) (aD (i:=6) dN.nd rfl (Or.inl rfl))
   (aB (aW (i:=7) dN.nd rfl (Or.inl rfl) (aK C_passed hr (by decide) rfl (aj (pv 6) ao)))
  (aB (aW (i:=8) dN.nd rfl (Or.inl rfl) (bD (aj (aX bI (pv 0) (bA bH (pv 7) aA (fun _ _=>rfl))) (aj (aX bI (pv 1) (bA bH (pv 7) aA (fun _ _=>rfl))) ao))))
  (aC (eN (iw PySem.F.plainAttrs_list PySem.F.slot_list_append PySem.F.type_list_append cH (pv 5) (aj (bD (aj (pv 6) (aj (aK C_step_cost hr (by decide) rfl (aj (pv 6) (aj (pv 2) (aj (pv 3) (aj (pv 4) ao))))) (aj (pv 8) ao)))) ao)))))))
  (aC (aR (pv 5))))),?_⟩
 refine ⟨smn 0,fun lf hlf=>gN ?_⟩
 have s0:=aq hlf (.lst [])
 have e0:(upd H lf (.lst [])) lf=some (.lst []):=ak
 generalize upd H lf (.lst [])=H0 at s0 e0 ⊢
 obtain ⟨us1,e1,hu1,_⟩:=id hC.m1.ex
 obtain ⟨us2,e2,hu2,_⟩:=id hC.m2.ex
 refine ⟨_,rfl,_,rfl,_,rfl,l1,_,rfl,.inl (SqL.of (s0 _ _ e1)),_,rfl,l2,_,rfl,.inl (SqL.of (s0 _ _ e2)),?_⟩
 rw [hu1,hu2]
 refine ⟨i,j,xs.length,ys.length,rfl,hi,hj,hm,hn,fun q vs ss H1 s1 e1' d1 hp=>?_⟩
 refine ⟨q,rfl,⟨_,SqT.of e1'⟩,?_⟩
 have hul:=d1.len
 rw [List.length_map] at hul
 have hin:∀ s∈ss,s∈aJ i j xs.length ys.length:=fun s hs=>hp.mem_iff.mp hs
 have hsl:ss.length≤8:=by rw [hp.length_eq]; exact jf _ _ _ _
 have s01:=s0.trans s1
 refine jF (K:=K) (a:=q) (xs:=vs) (fun x σ H2=>∃ (v6 v7 v8:Option V) (us:List V),σ=[some (.int (i:Nat)),some (.int (j:Nat)),some (.ref l1),some (.ref l2),some (.ref qp),some (.ref lf),v6,v7,v8]∧Same H H2∧(∀ (b:Addr) (vs:List V),H1 b=some (.tup vs)→H2 b=some (.tup vs))∧H2 lf=some (.lst us)∧cQ H2 us ((ss.take x).map (psD (bx ns xs ys ps) i j))∧us.length=x) ⟨_,_,_,[],rfl,s01,fun _ _ e=>e,s1 _ _ e0,trivial,rfl⟩ ?_ ?_ ?_
 ·rintro x σ H2 _ ⟨_,_,_,_,_,_,k2,_⟩
  exact SqT.of (k2 _ _ e1')
 ·rintro x y σ H2 hx ⟨v6,v7,v8,us,rfl,s2,k2,e2',d2,hul2⟩
  have hxl:=(List.getElem?_eq_some_iff.mp hx).1
  have hxs:x < ss.length:=by omega
  have dy:Den H1 y (stD ss[x]):=at_of d1 hx (by rw [List.getElem?_map,List.getElem?_eq_getElem hxs]; rfl)
  obtain ⟨_,h2,h3⟩:=dz (hin _ (List.getElem_mem hxs))
  have htk:(ss.take (x+1)).map (psD (bx ns xs ys ps) i j)=(ss.take x).map (psD (bx ns xs ys ps) i j)++[psD (bx ns xs ys ps) i j ss[x]]:=by rw [List.take_add_one,List.getElem?_eq_getElem hxs,List.map_append]; rfl
  rw [htk]
  have dy2:=dy.keepT k2
  generalize ss[x]=st at dy2 h2 h3 ⊢
  refine gN ⟨_,rfl,y,st,rfl,dy2,h2,fun p hp=>⟨Nat.le_trans (h3 p hp).la (by decide),Nat.le_trans (h3 p hp).lb (by decide)⟩,fun tc H3 s3 e3=>gN ?_⟩
  refine ⟨_,rfl,_,rfl,tc,_,_,_,rfl,rfl,SqT.of e3,cD _ _,_,_,rfl,rfl,_,rfl,_,rfl,tc,_,_,_,rfl,rfl,SqT.of e3,bw (xs:=[V.int ((sz1 st:Nat):Int),V.int ((sz2 st:Nat):Int)]) (j:=1) rfl,_,_,rfl,rfl,smn 2,fun te hte=>gN ?_⟩
  have s4:=aq hte (.tup [.int ((i:Nat)+(sz1 st:Nat)),.int ((j:Nat)+(sz2 st:Nat))])
  have e4:(upd H3 te (.tup [.int ((i:Nat)+(sz1 st:Nat)),.int ((j:Nat)+(sz2 st:Nat))])) te=some (.tup [.int ((i:Nat)+(sz1 st:Nat)),.int ((j:Nat)+(sz2 st:Nat))]):=ak
  generalize upd H3 te (.tup [.int ((i:Nat)+(sz1 st:Nat)),.int ((j:Nat)+(sz2 st:Nat))])=H4 at s4 e4 ⊢
  have s24:=s3.trans s4
  refine ⟨_,rfl,.inl ⟨rfl,_,SqL.of (s24 _ _ e2')⟩,_,rfl,_,rfl,_,rfl,_,rfl,_,rfl,y,l1,l2,qp,st,ns,xs,ys,ps,rfl,dy2.same s24,h3,h2,(hC.same s2).same s24,fun H5 s5=>?_⟩
  refine ⟨_,rfl,smn 3,fun tn htn=>?_⟩
  have s6:=aq htn (.tup [y,.int (bx ns xs ys ps st),.ref te])
  have e6:(upd H5 tn (.tup [y,.int (bx ns xs ys ps st),.ref te])) tn=some (.tup [y,.int (bx ns xs ys ps st),.ref te]):=ak
  generalize upd H5 tn (.tup [y,.int (bx ns xs ys ps st),.ref te])=H6 at s6 e6 ⊢
  have s26:=(s24.trans s5).trans s6
  have elf:=s26 _ _ e2'
  have kt:∀ (b:Addr) (vs:List V),H6 b=some (.tup vs)→(upd H6 lf (.lst (us++[.ref tn]))) b=some (.tup vs):=fun b vs e=>by
   rw [aM (lZ e elf (by intro z; cases z))]
   exact e
  refine ⟨lf,us,.ref tn,rfl,rfl,elf,aH (by omega),_,_,_,us++[.ref tn],rfl,fun x u z=>?_,fun b vs e=>kt _ _ (s26 _ _ (k2 _ _ e)),ak,((d2.same s26).keepT kt).snoc ?_,by rw [List.length_append,hul2]; rfl⟩
  ·rw [aM (aF z hlf)]
   exact s26 _ _ (s2 _ _ z)
  ·exact ⟨tn,_,rfl,kt _ _ e6,(dy2.same s26).keepT kt,rfl,⟨te,_,rfl,kt _ _ (s6 _ _ (s5 _ _ e4)),rfl,rfl,trivial⟩,trivial⟩
 ·rintro σ H2 ⟨v6,v7,v8,us,rfl,s2,k2,e2',d2,hul2⟩
  rw [hul,List.take_length] at d2
  exact ⟨_,rfl,k lf us ss H2 s2 hlf e2' d2 hp⟩
end
def Ln (H:Hp) (i j:Nat) (r:Int × Option Stp) (v:V):Prop:=∃ (t:Addr) (x y:V),v=.ref t∧H t=some (.tup [.int r.1,x,y])∧match r.2 with
 | none=>x=.non∧y=.non
 | some s=>Den H x (stD s)∧Den H y (.tup [.int ((i+sz1 s:Nat):Int),.int ((j+sz2 s:Nat):Int)])
def wL (i j:Nat):List Key:=[Sum.inl ((i:Nat):Int),Sum.inl ((j:Nat):Int)]
theorem Aw {i j a b:Nat} (h:wL i j=wL a b):i=a∧j=b:=by
 unfold wL at h
 injection h with h1 h2
 injection h2 with h2
 have h1:=Sum.inl.inj h1
 have h2:=Sum.inl.inj h2
 omega
def Behind (i j a b:Nat):Prop:=i < a∨(i=a∧j < b)
structure Ml (H:Hp) (d:Addr) (m n:Nat) (c:Stp→Int) (S:Nat→Nat→Prop) (R:Rst) (kvs:List (List Key × V)):Prop where
 e:H d=some (.dT kvs)
 v:∀ a b,a≤m→b≤n→S a b→∃ v,j9 kvs (wL a b)=some v∧Ln H a b (R a b) v
 nil:∀ a b,a≤m→b≤n→S a b→aJ a b m n=[]→R a b=(0,none)
 cons:∀ a b,a≤m→b≤n→S a b→aJ a b m n≠[]→∃ s∈aJ a b m n,R a b=(tot c R a b s,some s)∧∀ s'∈aJ a b m n,dlt (chD c R a b s') (chD c R a b s)=false
def JW (R:Rst) (i j:Nat) (r:Int × Option Stp):Rst:=fun a b=>if a=i∧b=j then r else R a b
theorem KQ (R:Rst) (i j:Nat) (r:Int × Option Stp):JW R i j r i j=r:=if_pos ⟨rfl,rfl⟩
theorem Gi {R:Rst} {i j a b:Nat} {r:Int × Option Stp} (h:¬ (a=i∧b=j)):JW R i j r a b=R a b:=if_neg h
theorem FQ {c:Stp→Int} {R:Rst} {i j a b m n:Nat} {r:Int × Option Stp} {s:Stp} (hs:s∈aJ a b m n) (h:a=i∧b=j∨Behind i j a b):tot c (JW R i j r) a b s=tot c R a b s:=by
 have:=step_at hs
 unfold tot
 rw [Gi]
 rintro ⟨h1,h2⟩
 rcases h with ⟨rfl,rfl⟩ | h | ⟨rfl,h⟩
 ·omega
 ·omega
 ·omega
theorem Lp {c:Stp→Int} {R:Rst} {i j a b m n:Nat} {r:Int × Option Stp} {s:Stp} (hs:s∈aJ a b m n) (h:a=i∧b=j∨Behind i j a b):chD c (JW R i j r) a b s=chD c R a b s:=by
 unfold chD
 rw [FQ hs h]
theorem K5 {H:Hp} {v:V} {c:Stp→Int} {i j:Nat} {s:Stp} (h:Den H v (psD c i j s)):∃ (t te:Addr) (x:V),v=.ref t∧H t=some (.tup [x,.int (c s),.ref te])∧Den H x (stD s)∧H te=some (.tup [.int ((i+sz1 s:Nat):Int),.int ((j+sz2 s:Nat):Int)]):=by
 obtain ⟨t,vs,rfl,ht,hd⟩:=h
 match vs,hd,ht with
 | [a,b,e],hd,ht =>
  obtain ⟨h1,h2,⟨te,us,rfl,hte,hu⟩,_⟩:=hd
  have h2:b=.int _:=h2
  subst h2
  match us,hu,hte with
  | [f,g],hu,hte =>
   obtain ⟨k1,k2,_⟩:=hu
   have k1:f=.int _:=k1
   have k2:g=.int _:=k2
   subst k1 k2
   exact ⟨t,te,a,rfl,ht,h1,hte⟩
theorem CJ {κ:Type} [DecidableEq κ] (kvs:List (κ × V)) (k:κ) (v:V):(putK kvs k v).length≤kvs.length+1:=by
 unfold putK
 split
 ·rw [List.length_map]; omega
 ·rw [List.length_append]; exact Nat.le_refl _
def mG (m n:Nat):Nat→Nat→List Stp→Prop
 | i,j,[]=>i=m∧j=n
 | i,j,s :: w=>s∈aJ i j m n∧mG m n (i+sz1 s) (j+sz2 s) w
theorem Ec {ss:List Stp} {s:Stp}:((ss.map stD).any fun e=>eqD e (stD s))=true↔s∈ss:=by
 rw [List.any_eq_true]
 constructor
 ·rintro ⟨e,he,h⟩
  obtain ⟨x,hx,rfl⟩:=List.mem_map.mp he
  by_cases z:stD x=stD s
  ·rw [← rG z]
   exact hx
  ·rw [qe z] at h
   cases h
 ·intro h
  exact ⟨stD s,List.mem_map_of_mem h,j5 _⟩
theorem eY {m n:Nat}:∀ {w:List Stp} {i j:Nat},mG m n i j w→i≤m→j≤n→w.length+i+j≤m+n∧∀ s∈w,1≤s.length∧s.length≤2∧∀ l∈s,Ef m n l
 | [],i,j,h,hi,hj=>⟨by rw [List.length_nil]; omega,fun s hs=>by cases hs⟩
 | s :: w,i,j,h,hi,hj=>by
  obtain ⟨g1,g2,g3⟩:=step_at h.1
  obtain ⟨a,b⟩:=eY h.2 g1 g2
  refine ⟨by rw [List.length_cons]; omega,fun t ht=>?_⟩
  rcases List.mem_cons.mp ht with rfl | ht
  ·exact dz h.1
  ·exact b t ht
def mq (w:List Stp):Prop:=∀ s∈w,s.length≤2∧∀ p∈s,p.1.length≤4∧p.2.length≤4
structure sy (H:Hp) (g:Addr) (m n:Nat) (F:Nat→Nat→Int) (gus:List V):Prop where
 e:H g=some (.tup gus)
 l:gus.length=m+1
 r:∀ (i:Nat) (u:V),gus[i]?=some u→∃ a:Addr,u=.ref a∧H a=some (.tup (((List.range (n+1)).map (F i)).map V.int))
theorem sy.same {H H':Hp} {g:Addr} {m n:Nat} {F:Nat→Nat→Int} {gus:List V} (h:sy H g m n F gus) (s:Same H H'):sy H' g m n F gus:=⟨s _ _ h.e,h.l,fun i u hu=>by
 obtain ⟨a,e1,e2⟩:=h.r i u hu
 exact ⟨a,e1,s _ _ e2⟩⟩
theorem wJ {n j:Nat} {f:Nat→Int} (h:j≤n):(((List.range (n+1)).map f).map V.int)[j]?=some (.int (f j)):=by
 rw [List.getElem?_map,List.getElem?_map,List.getElem?_range (by omega)]
 rfl
theorem sy.get {H:Hp} {g:Addr} {m n:Nat} {F:Nat→Nat→Int} {gus:List V} (h:sy H g m n F gus) {i j:Nat} (hi:i≤m) (hj:j≤n):∃ (a:Addr) (row:List V),gus[i]?=some (.ref a)∧H a=some (.tup row)∧row.length=n+1∧row[j]?=some (.int (F i j)):=by
 have hl:i < gus.length:=by rw [h.l]; omega
 obtain ⟨a,e1,e2⟩:=h.r i _ (bB hl)
 exact ⟨a,_,by rw [bB hl,e1],e2,by rw [List.length_map,List.length_map,List.length_range],wJ hj⟩
mutual
def th:D→Th
 | .non=>.non
 | .bl b=>.bl b
 | .int i=>.int i
 | .str x=>.str x
 | .tup ds=>.tup (Fg ds)
def Fg:List D→List Th
 | []=>[]
 | d :: ds=>th d :: Fg ds
end
theorem sX:∀ ds:List D,Fg ds=ds.map th
 | []=>rfl
 | d :: ds=>congrArg (th d :: ·) (sX ds)
theorem uq (ds:List D):th (.tup ds)=.tup (ds.map th):=congrArg Th.tup (sX ds)
mutual
theorem yg {B:List Addr} {H:Hp}:∀ {d:D} {v:V},TgV B H v (th d)→Den H v d
 | .non,_,h=>h
 | .bl _,_,h=>h
 | .int _,_,h=>h
 | .str _,_,h=>h
 | .tup ds,_,h=>by
  obtain ⟨p,vs,e,hp,hd⟩:=h
  exact ⟨p,vs,e,hp,yj hd⟩
theorem yj {B:List Addr} {H:Hp}:∀ {ds:List D} {vs:List V},TgL B H vs (Fg ds)→cQ H vs ds
 | [],[],_=>trivial
 | _ :: _,_ :: _,h=>⟨yg h.1,yj h.2⟩
 | [],_ :: _,h=>h.elim
 | _ :: _,[],h=>h.elim
end
mutual
theorem DQ {B:List Addr} {H:Hp}:∀ {d:D} {v:V},Den H v d→TgV B H v (th d)
 | .non,_,h=>h
 | .bl _,_,h=>h
 | .int _,_,h=>h
 | .str _,_,h=>h
 | .tup ds,_,h=>by
  obtain ⟨p,vs,e,hp,hd⟩:=h
  exact ⟨p,vs,e,hp,xW hd⟩
theorem xW {B:List Addr} {H:Hp}:∀ {ds:List D} {vs:List V},cQ H vs ds→TgL B H vs (Fg ds)
 | [],[],_=>trivial
 | _ :: _,_ :: _,h=>⟨DQ h.1,xW h.2⟩
 | [],_ :: _,h=>h.elim
 | _ :: _,[],h=>h.elim
end
mutual
theorem Ei:∀ {d e:D},th d=th e→d=e
 | .non,.non,_=>rfl
 | .bl _,.bl _,h=>by cases h; rfl
 | .int _,.int _,h=>by cases h; rfl
 | .str _,.str _,h=>by cases h; rfl
 | .tup ds,.tup es,h=>congrArg D.tup (tX (Th.tup.inj h))
 | .non,.bl _,h=>nomatch h
 | .non,.int _,h=>nomatch h
 | .non,.str _,h=>nomatch h
 | .non,.tup _,h=>nomatch h
 | .bl _,.non,h=>nomatch h
 | .bl _,.int _,h=>nomatch h
 | .bl _,.str _,h=>nomatch h
 | .bl _,.tup _,h=>nomatch h
 | .int _,.non,h=>nomatch h
 | .int _,.bl _,h=>nomatch h
 | .int _,.str _,h=>nomatch h
 | .int _,.tup _,h=>nomatch h
 | .str _,.non,h=>nomatch h
 | .str _,.bl _,h=>nomatch h
 | .str _,.int _,h=>nomatch h
 | .str _,.tup _,h=>nomatch h
 | .tup _,.non,h=>nomatch h
 | .tup _,.bl _,h=>nomatch h
 | .tup _,.int _,h=>nomatch h
 | .tup _,.str _,h=>nomatch h
theorem tX:∀ {ds es:List D},Fg ds=Fg es→ds=es
 | [],[],_=>rfl
 | _ :: _,_ :: _,h=>by rw [Ei (List.cons.inj h).1,tX (List.cons.inj h).2]
 | [],_ :: _,h=>nomatch h
 | _ :: _,[],h=>nomatch h
end
def J0 (w:List Stp):D:=.tup (w.map stD)
theorem Am {a b:List Stp} (h:J0 a=J0 b):a=b:=by
 have h:=D.tup.inj h
 exact (List.map_inj_right fun _ _=>rG).mp h
def thI (l:List Nat):Th:=.tup (l.map fun i=>Th.int (i:Nat))
def thL (q:Lk):Th:=.tup [thI q.1,thI q.2]
def thS (s:Stp):Th:=.tup (s.map thL)
def thW (w:List Stp):Th:=.tup (w.map thS)
theorem Js (l:List Nat):th (nD l)=thI l:=by
 unfold nD thI
 rw [uq,List.map_map]
 rfl
theorem Lb (q:Lk):th (lkD q)=thL q:=by
 unfold lkD thL
 rw [uq,List.map_cons,List.map_cons,List.map_nil,Js,Js]
theorem Lg (s:Stp):th (stD s)=thS s:=by
 unfold stD thS
 rw [uq,List.map_map]
 exact congrArg Th.tup (List.map_congr_left fun q _=>Lb q)
theorem oU (w:List Stp):th (J0 w)=thW w:=by
 unfold J0 thW
 rw [uq,List.map_map]
 exact congrArg Th.tup (List.map_congr_left fun q _=>Lg q)
theorem qY {a b:List Stp} (h:thW a=thW b):a=b:=Am (Ei (by rw [oU,oU,h]))
def thR (n:Nat) (f:Nat→Int):Th:=.tup (((List.range (n+1)).map f).map Th.int)
def thG (m n:Nat) (F:Nat→Nat→Int):Th:=.tup ((List.range (m+1)).map fun i=>thR n (F i))
def thT (m n:Nat) (c:Int) (w:List Stp) (F:Nat→Nat→Int):Th:=.tup [.int c,thW w,thG m n F]
def jr:Th→Bool
 | .int _=>true
 | _=>false
def fU:Th→Bool
 | .tup ts=>ts.all jr
 | _=>false
def qL (n:Nat):Th→Bool
 | .tup ts=>decide (ts.length=n)
 | _=>false
def yZ (m n:Nat):Th→Bool
 | .tup ts=>decide (ts.length=m) && ts.all fun r=>qL n r && fU r
 | _=>false
def m9:Th→Bool
 | .tup [a,b]=>fU a && fU b
 | _=>false
def jU:Th→Bool
 | .tup ts=>ts.all m9
 | _=>false
def GR:Th→Bool
 | .tup ts=>ts.all jU
 | _=>false
def LG:Nat→Th→Prop
 | n+1,.tup ts=>ts.length≤900∧∀ t∈ts,LG n t
 | _,_=>True
theorem Gu (t:Th):BP "int" t=(match t with | .int _=>true | .bl _=>true | _=>false):=by cases t <;> simp [BP,Fp]
theorem uL (t:Th):BP "bool" t=(match t with | .bl _=>true | _=>false):=by cases t <;> simp [BP,Fp]
theorem fB (t:Th):BP "tuple" t=true↔∃ ts,t=.tup ts:=by
 cases t <;> simp [BP,Fp]
theorem Di (w:List Stp):GR (thW w)=true:=by
 refine List.all_eq_true.mpr fun x hx=>?_
 obtain ⟨s,_,rfl⟩:=List.mem_map.mp hx
 refine List.all_eq_true.mpr fun y hy=>?_
 obtain ⟨q,_,rfl⟩:=List.mem_map.mp hy
 refine Bool.and_eq_true_iff.mpr ⟨List.all_eq_true.mpr fun z hz=>?_,List.all_eq_true.mpr fun z hz=>?_⟩
 ·obtain ⟨i,_,rfl⟩:=List.mem_map.mp hz
  rfl
 ·obtain ⟨i,_,rfl⟩:=List.mem_map.mp hz
  rfl
theorem Ib {n:Nat} {t:Th} (h1:qL (n+1) t=true) (h2:fU t=true):∃ f,t=thR n f:=by
 cases t with
 | tup us =>
  have hl:us.length=n+1:=of_decide_eq_true h1
  refine ⟨fun j=>match us[j]? with | some (.int x)=>x | _=>0,congrArg Th.tup (List.ext_getElem? fun j=>?_)⟩
  rw [List.getElem?_map,List.getElem?_map]
  rcases Nat.lt_or_ge j (n+1) with hj | hj
  ·rw [List.getElem?_range hj]
   have hj':j < us.length:=by omega
   have hn:=List.all_eq_true.mp h2 _ (List.getElem_mem hj')
   show us[j]?=some (Th.int (match us[j]? with | some (.int x)=>x | _=>0))
   rw [List.getElem?_eq_getElem hj']
   generalize us[j]=u at hn
   cases u <;> first | rfl | cases hn
  ·rw [List.getElem?_eq_none (by omega),List.getElem?_eq_none (by rw [List.length_range]; exact hj)]
   rfl
 | _=>cases h1
theorem uz {m n:Nat} {t:Th}:yZ (m+1) (n+1) t=true↔∃ F,t=thG m n F:=by
 constructor
 ·intro h
  cases t with
  | tup ts =>
   obtain ⟨h1,h2⟩:=Bool.and_eq_true_iff.mp h
   have hl:ts.length=m+1:=of_decide_eq_true h1
   have hr:∀ i,i < m+1→∃ f,ts[i]?=some (thR n f):=fun i hi=>by
    have hi':i < ts.length:=by omega
    obtain ⟨a,b⟩:=Bool.and_eq_true_iff.mp (List.all_eq_true.mp h2 _ (List.getElem_mem hi'))
    obtain ⟨f,hf⟩:=Ib a b
    exact ⟨f,by rw [List.getElem?_eq_getElem hi',hf]⟩
   have hc:∃ F:Nat→Nat→Int,∀ i,i < m+1→ts[i]?=some (thR n (F i)):=by
    refine ⟨fun i=>if h:i < m+1 then (hr i h).choose else fun _=>0,fun i hi=>?_⟩
    show ts[i]?=some (thR n (if h:i < m+1 then (hr i h).choose else fun _=>0))
    rw [dif_pos hi]
    exact (hr i hi).choose_spec
   obtain ⟨F,hF⟩:=hc
   refine ⟨F,congrArg Th.tup (List.ext_getElem? fun i=>?_)⟩
   rw [List.getElem?_map]
   rcases Nat.lt_or_ge i (m+1) with hi | hi
   ·rw [List.getElem?_range hi,hF i hi]
    rfl
   ·rw [List.getElem?_eq_none (by omega),List.getElem?_eq_none (by rw [List.length_range]; exact hi)]
    rfl
  | _=>cases h
 ·rintro ⟨F,rfl⟩
  refine Bool.and_eq_true_iff.mpr ⟨decide_eq_true (by rw [List.length_map,List.length_range]),List.all_eq_true.mpr fun x hx=>?_⟩
  obtain ⟨i,_,rfl⟩:=List.mem_map.mp hx
  refine Bool.and_eq_true_iff.mpr ⟨decide_eq_true (by rw [List.length_map,List.length_map,List.length_range]),List.all_eq_true.mpr fun y hy=>?_⟩
  obtain ⟨j,_,rfl⟩:=List.mem_map.mp hy
  rfl
theorem uK {B:List Addr} {H:Hp}:∀ {ns:List Int} {vs:List V},TgL B H vs (ns.map Th.int)→vs=ns.map V.int
 | [],[],_=>rfl
 | n :: ns,v :: vs,h=>by
  have e:v=.int n:=h.1
  rw [e,uK h.2]
  rfl
 | [],_ :: _,h=>h.elim
 | _ :: _,[],h=>h.elim
theorem uI {B:List Addr} {H:Hp}:∀ ns:List Int,TgL B H (ns.map V.int) (ns.map Th.int)
 | []=>trivial
 | _ :: ns=>⟨rfl,uI ns⟩
theorem fO {B:List Addr} {H:Hp} {v:V} {ts:List Th} (h:TgV B H v (.tup ts)):∃ (p:Addr) (vs:List V),v=.ref p∧H p=some (.tup vs)∧TgL B H vs ts:=h
def spG (d:Nat) (f:Th→Bool):Sp:=fun vs H Q _=>∃ (v:V) (B:List Addr) (t:Th),vs=[v]∧TgV B H v t∧LG d t∧∀ H',Same H H'→Q (.bl (f t)) H'
def mV:Sp:=fun vs H Q _=>∃ (v:V) (n:Nat) (B:List Addr) (t:Th),vs=[v,.int (n:Nat)]∧TgV B H v t∧Q (.bl (qL n t)) H
def uD:Sp:=fun vs H Q _=>∃ (v:V) (m n:Nat) (B:List Addr) (t:Th),vs=[v,.int (m:Nat),.int (n:Nat)]∧TgV B H v t∧LG 2 t∧∀ H',Same H H'→Q (.bl (yZ m n t)) H'
def zV:Sp:=fun vs H Q _=>∃ (v:V) (m n:Nat) (B:List Addr) (t:Th),vs=[v,.int (m:Nat),.int (n:Nat)]∧TgV B H v t∧LG 4 t∧(GR t=true→∃ way,t=thW way∧mq way)∧m≤900∧n≤900∧∀ (b:Bool) (H':Hp),Same H H'→(b=true↔∃ way,t=thW way∧mG m n 0 0 way)→Q (.bl b) H'
theorem LG.of {n:Nat} {ts:List Th} (h:LG (n+1) (.tup ts)):ts.length≤900∧∀ t∈ts,LG n t:=h
theorem take_all {f:Th→Bool} {ts:List Th} {i:Nat} {t:Th} (h:ts[i]?=some t):((ts.take (i+1)).map f).map V.bl=((ts.take i).map f).map V.bl++[.bl (f t)]:=by
 rw [take_one h,List.map_append,List.map_append]
 rfl
theorem um (f:Th→Bool) (ts:List Th):(ts.map f).all id=ts.all f:=by
 rw [List.all_map]
 rfl
section
variable {P:Program} {w:World} {K:PySem.W.Frag} {mg:Str→Option Value} {base:Heap}
theorem u6:aP ["thing"] ["thing"] (au fu):=⟨rfl,rfl,rfl,by decide +kernel,rfl,by decide +kernel,by decide +kernel⟩
theorem rM (h:Has K mg "is_number" fu ["thing"]) (m_isinstance:mg "isinstance" = none) (m_bool:mg "bool" = none) (m_int:mg "int" = none):Cal P w K mg base "is_number" 1 ["thing"] (spG 0 jr):=by
 refine h.mk' u6 (fun vs H Q E hs=>?_) (fun f cdv A outer s H vs Q E hr hs=>?_)
 ·obtain ⟨v,B,t,rfl,_⟩:=hs
  rfl
 obtain ⟨v,B,t,rfl,hv,_,k⟩:=hs
 refine ⟨_,(aC (aR (fP (aG bY rfl m_isinstance boot_isinstance (aj (pv 0) (aj (gJ (v:=.ty "int") rfl m_int boot_int rfl) ao))) (gY (Jq (aG bY rfl m_isinstance boot_isinstance (aj (pv 0) (aj (gJ (v:=.ty "bool") rfl m_bool boot_bool rfl) ao)))))))),?_⟩
 have k:=k H (Same.refl H)
 refine ⟨_,rfl,v, "int",B,t,rfl,hv,.inl rfl,_,rfl,?_⟩
 rw [Gu]
 cases t with
 | int i =>
  refine gB ⟨_,rfl,v, "bool",B,.int i,rfl,hv,.inr (.inl rfl),_,rfl,?_⟩
  rw [uL]
  exact k
 | bl b =>
  refine gB ⟨_,rfl,v, "bool",B,.bl b,rfl,hv,.inr (.inl rfl),_,rfl,?_⟩
  rw [uL]
  exact k
 | _=>exact qM k
theorem yO:aP ["thing", "count"] ["thing", "count"] (au fV):=⟨rfl,rfl,rfl,by decide +kernel,rfl,by decide +kernel,by decide +kernel⟩
theorem qZ (h:Has K mg "is_row_of" fV ["thing", "count"]) (m_len:mg "len" = none) (m_isinstance:mg "isinstance" = none) (m_tuple:mg "tuple" = none):Cal P w K mg base "is_row_of" 1 ["thing", "count"] mV:=by
 refine h.mk' yO (fun vs H Q E hs=>?_) (fun f cdv A outer s H vs Q E hr hs=>?_)
 ·obtain ⟨v,n,B,t,rfl,_⟩:=hs
  rfl
 obtain ⟨v,n,B,t,rfl,hv,k⟩:=hs
 refine ⟨_,(aC (aR (fP (aG bY rfl m_isinstance boot_isinstance (aj (pv 0) (aj (gJ (v:=.ty "tuple") rfl m_tuple boot_tuple rfl) ao))) (gY (gK gG (aG aQ rfl m_len PySem.boot_len (aj (pv 0) ao)) (pv 1) (bG _)))))),?_⟩
 refine ⟨_,rfl,v, "tuple",B,t,rfl,hv,.inr (.inr (.inr rfl)),_,rfl,?_⟩
 refine dR (fun c=>?_) (fun c=>?_)
 ·obtain ⟨ts,rfl⟩:=(fB t).mp c
  obtain ⟨q,us,rfl,e,dl⟩:=fO hv
  refine ⟨_,rfl,q,_,rfl,.inr (SqT.of e),_,rfl,rfl,?_⟩
  have hl:=dl.len
  have e:decide (V.int (us.length:Nat)=V.int (n:Nat))=qL n (.tup ts):=decide_eq_decide.mpr ⟨fun z=>by injection z with z; omega,fun z=>by rw [hl,z]⟩
  rw [e]
  exact k
 ·have e:qL n t=false:=by
   cases t with
   | tup ts=>exact absurd ((fB _).mpr ⟨_,rfl⟩) c
   | _=>rfl
  rw [e] at k
  exact k
theorem qd:aP ["thing"] ["thing"] (au cM):=⟨rfl,rfl,rfl,by decide +kernel,rfl,by decide +kernel,by decide +kernel⟩
theorem oh (h:Has K mg "are_numbers" cM ["thing"]) (C_is_number:Cal P w K mg base "is_number" 1 ["thing"] (spG 0 jr)) (m_all:mg "all" = none) (m_isinstance:mg "isinstance" = none) (m_tuple:mg "tuple" = none):Cal P w K mg base "are_numbers" 2 ["thing"] (spG 1 fU):=by
 refine h.mk' qd (fun vs H Q E hs=>?_) (fun f cdv A outer s H vs Q E hr hs=>?_)
 ·obtain ⟨v,B,t,rfl,_⟩:=hs
  rfl
 obtain ⟨v,B,t,rfl,hv,hL,k⟩:=hs
 refine ⟨_,(aC (aR (fP (aG bY rfl m_isinstance boot_isinstance (aj (pv 0) (aj (gJ (v:=.ty "tuple") rfl m_tuple boot_tuple rfl) ao))) (gY (aG (jq rfl) rfl m_all boot_all (aj (aZ ["thing"] (au cM) ["each"] [none] rfl rfl rfl (cI (pv 0)) rfl (by decide +kernel) (by decide +kernel) (by decide +kernel) (by decide +kernel) (hg:=fun cl C s H ex pn E=>(aD (i:=0) (by decide +kernel:(["each"]:List Str).Nodup) rfl (Or.inl rfl))) (ht:=fun cl C s H ex pn E=>bh) (he:=fun cl C s H ex pn E=>(aK C_is_number hr (by decide) rfl (aj (pv 0) ao)))) ao)))))),?_⟩
 refine ⟨_,rfl,v, "tuple",B,t,rfl,hv,.inr (.inr (.inr rfl)),_,rfl,?_⟩
 refine dR (fun c=>?_) (fun c=>?_)
 ·obtain ⟨ts,rfl⟩:=(fB t).mp c
  obtain ⟨q,us,rfl,e,dl⟩:=fO hv
  have hl:=dl.len
  obtain ⟨hL1,hL2⟩:=hL.of
  refine ⟨_,rfl,q,rfl,⟨_,SqT.of e⟩,fun lc hlc=>?_⟩
  refine bF (J:=Itt K q) (l:=lc) ts.length (fun i σ' H'=>∃ v:Option V,σ'=[v]∧Same H H'∧H' lc=some (.lst (((ts.take i).map jr).map V.bl))) ⟨none,rfl,aq hlc _,ak⟩ ?_ ?_
  ·rintro σ' H1 ⟨v,rfl,s1,e1⟩
   refine ⟨⟨_,SqT.of (s1 _ _ e),by omega⟩,lc,_,rfl,SqL.of e1,?_⟩
   rw [um,List.take_length]
   exact k H1 s1
  ·rintro i σ' H1 hi ⟨v,rfl,s1,e1⟩
   have hil:i < us.length:=by omega
   refine ⟨⟨_,_,SqT.of (s1 _ _ e),bB hil⟩,?_⟩
   rintro y H2 ⟨rfl,hy⟩
   have ey:us[i]?=some y:=hy _ (SqT.of (s1 _ _ e))
   obtain ⟨t,ht,hd⟩:=dl.at_ ey
   rw [take_all ht]
   refine gN (jy (gB ⟨_,rfl,y,B,t,rfl,hd.same s1,trivial,fun H3 s3=>⟨_,s3 _ _ e1,aH (by rw [List.length_map,List.length_map,List.length_take]; omega),_,rfl,aU (s1.trans s3) hlc,ak⟩⟩))
 ·have e:fU t=false:=by
   cases t with
   | tup ts=>exact absurd ((fB _).mpr ⟨_,rfl⟩) c
   | _=>rfl
  have k:=k H (Same.refl H)
  rw [e] at k
  exact k
theorem CG:aP ["thing", "rows", "columns"] ["thing", "rows", "columns"] (au gQ):=⟨rfl,rfl,rfl,by decide +kernel,rfl,by decide +kernel,by decide +kernel⟩
theorem zm (h:Has K mg "is_grid" gQ ["thing", "rows", "columns"]) (C_are_numbers:Cal P w K mg base "are_numbers" 2 ["thing"] (spG 1 fU)) (C_is_row_of:Cal P w K mg base "is_row_of" 1 ["thing", "count"] mV) (m_all:mg "all" = none):Cal P w K mg base "is_grid" 3 ["thing", "rows", "columns"] uD:=by
 refine h.mk' CG (fun vs H Q E hs=>?_) (fun f cdv A outer s H vs Q E hr hs=>?_)
 ·obtain ⟨v,m,n,B,t,rfl,_⟩:=hs
  rfl
 obtain ⟨v,m,n,B,t,rfl,hv,hL,k⟩:=hs
 refine ⟨_,(aC (aR (fP (aK C_is_row_of hr (by decide) rfl (aj (pv 0) (aj (pv 1) ao))) (gY (aG (jq rfl) rfl m_all boot_all (aj (aZ ["thing", "rows", "columns"] (au gQ) ["columns", "row"] [some 2,none] rfl rfl rfl (cI (pv 0)) rfl (by decide +kernel) (by decide +kernel) (by decide +kernel) (by decide +kernel) (hg:=fun cl C s H ex pn E=>(aD (i:=1) (by decide +kernel:(["columns", "row"]:List Str).Nodup) rfl (Or.inl rfl))) (ht:=fun cl C s H ex pn E=>bh) (he:=fun cl C s H ex pn E=>(fP (aK C_is_row_of hr (by decide) rfl (aj (pv 1) (aj (pv 0) ao))) (gY (aK C_are_numbers hr (by decide) rfl (aj (pv 1) ao)))))) ao)))))),?_⟩
 refine ⟨_,rfl,_,rfl,v,m,B,t,rfl,hv,_,rfl,?_⟩
 cases t with
 | tup ts =>
  obtain ⟨q,us,rfl,e,dl⟩:=fO hv
  have hl:=dl.len
  obtain ⟨hL1,hL2⟩:=hL.of
  refine dR (fun c=>?_) (fun c=>?_)
  ·refine ⟨_,rfl,q,rfl,⟨_,SqT.of e⟩,fun lc hlc=>?_⟩
   refine bF (J:=Itt K q) (l:=lc) ts.length (fun i σ' H'=>∃ v:Option V,σ'=[some (.int (n:Nat)),v]∧Same H H'∧H' lc=some (.lst (((ts.take i).map fun r=>qL n r && fU r).map V.bl))) ⟨none,rfl,aq hlc _,ak⟩ ?_ ?_
   ·rintro σ' H1 ⟨v,rfl,s1,e1⟩
    refine ⟨⟨_,SqT.of (s1 _ _ e),by omega⟩,lc,_,rfl,SqL.of e1,?_⟩
    have k:=k H1 s1
    rw [show yZ m n (.tup ts)=ts.all fun r=>qL n r && fU r from (by show (qL m (.tup ts) && _)=_; rw [c]; rfl)] at k
    rw [um,List.take_length]
    exact k
   ·rintro i σ' H1 hi ⟨v,rfl,s1,e1⟩
    have hil:i < us.length:=by omega
    refine ⟨⟨_,_,SqT.of (s1 _ _ e),bB hil⟩,?_⟩
    rintro y H2 ⟨rfl,hy⟩
    have ey:us[i]?=some y:=hy _ (SqT.of (s1 _ _ e))
    obtain ⟨t,ht,hd⟩:=dl.at_ ey
    rw [take_all ht]
    refine gN (jy (gB ⟨_,rfl,_,rfl,y,n,B,t,rfl,hd.same s1,_,rfl,?_⟩))
    refine dR (fun c2=>?_) (fun c2=>?_)
    ·refine ⟨_,rfl,y,B,t,rfl,hd.same s1,hL2 t (List.mem_of_getElem? ht),fun H3 s3=>?_⟩
     rw [c2,Bool.true_and]
     exact ⟨_,s3 _ _ e1,aH (by rw [List.length_map,List.length_map,List.length_take]; omega),_,rfl,aU (s1.trans s3) hlc,ak⟩
    ·have c2:qL n t=false:=by simpa using c2
     rw [c2,Bool.false_and]
     exact ⟨_,e1,aH (by rw [List.length_map,List.length_map,List.length_take]; omega),_,rfl,aU s1 hlc,ak⟩
  ·have c:qL m (.tup ts)=false:=by simpa using c
   have k:=k H (Same.refl H)
   rw [show yZ m n (.tup ts)=false from (by show (qL m (.tup ts) && _)=_; rw [c]; rfl)] at k
   exact k
 | _=>exact qM (k H (Same.refl H))
theorem jZ:aP ["thing"] ["thing"] (au bQ):=⟨rfl,rfl,rfl,by decide +kernel,rfl,by decide +kernel,by decide +kernel⟩
theorem iC (h:Has K mg "is_link_of_places" bQ ["thing"]) (C_are_numbers:Cal P w K mg base "are_numbers" 2 ["thing"] (spG 1 fU)) (C_is_row_of:Cal P w K mg base "is_row_of" 1 ["thing", "count"] mV):Cal P w K mg base "is_link_of_places" 3 ["thing"] (spG 2 m9):=by
 refine h.mk' jZ (fun vs H Q E hs=>?_) (fun f cdv A outer s H vs Q E hr hs=>?_)
 ·obtain ⟨v,B,t,rfl,_⟩:=hs
  rfl
 obtain ⟨v,B,t,rfl,hv,hL,k⟩:=hs
 refine ⟨_,(aC (aR (fP (aK C_is_row_of hr (by decide) rfl (aj (pv 0) (aj aA ao))) (fP (aK C_are_numbers hr (by decide) rfl (aj (bA bH (pv 0) aA (fun _ _=>rfl)) ao)) (gY (aK C_are_numbers hr (by decide) rfl (aj (bA bH (pv 0) aA (fun _ _=>rfl)) ao))))))),?_⟩
 refine ⟨_,rfl,v,2,B,t,rfl,hv,_,rfl,?_⟩
 refine dR (fun c=>?_) (fun c=>?_)
 ·cases t with
  | tup ts =>
   have c:ts.length=2:=of_decide_eq_true c
   match ts,c with
   | [a,b],_ =>
    obtain ⟨q,us,rfl,e,dl⟩:=fO hv
    have hl:=dl.len
    match us,hl with
    | [x,y],_ =>
     obtain ⟨da,db,_⟩:=dl
     obtain ⟨hL1,hL2⟩:=hL.of
     refine ⟨_,rfl,q,_,_,_,rfl,rfl,SqT.of e,cD _ _,x,B,a,rfl,da,hL2 a (by simp),fun H1 s1=>⟨_,rfl,?_⟩⟩
     refine dR (fun c2=>?_) (fun c2=>?_)
     ·refine ⟨_,rfl,q,_,_,_,rfl,rfl,SqT.of (s1 _ _ e),bw (xs:=[x,y]) (j:=1) rfl,y,B,b,rfl,db.same s1,hL2 b (by simp),fun H2 s2=>?_⟩
      have k:=k H2 (s1.trans s2)
      rw [show m9 (.tup [a,b])=fU b from (by show (fU a && fU b)=_; rw [c2]; rfl)] at k
      exact k
     ·have c2:fU a=false:=by simpa using c2
      have k:=k H1 s1
      rw [show m9 (.tup [a,b])=false from (by show (fU a && fU b)=_; rw [c2]; rfl)] at k
      exact k
  | _=>cases c
 ·have e:m9 t=false:=by
   have c:qL 2 t=false:=by simpa using c
   match t with
   | .tup []=>rfl
   | .tup [_]=>rfl
   | .tup [_,_]=>cases c
   | .tup (_ :: _ :: _ :: _)=>rfl
   | .non=>rfl
   | .bl _=>rfl
   | .int _=>rfl
   | .str _=>rfl
   | .lst=>rfl
   | .dct=>rfl
  have k:=k H (Same.refl H)
  rw [e] at k
  exact k
theorem lX:aP ["thing"] ["thing"] (au bZ):=⟨rfl,rfl,rfl,by decide +kernel,rfl,by decide +kernel,by decide +kernel⟩
theorem jJ (h:Has K mg "is_row_of_links" bZ ["thing"]) (C_is_link_of_places:Cal P w K mg base "is_link_of_places" 3 ["thing"] (spG 2 m9)) (m_all:mg "all" = none) (m_isinstance:mg "isinstance" = none) (m_tuple:mg "tuple" = none):Cal P w K mg base "is_row_of_links" 4 ["thing"] (spG 3 jU):=by
 refine h.mk' lX (fun vs H Q E hs=>?_) (fun f cdv A outer s H vs Q E hr hs=>?_)
 ·obtain ⟨v,B,t,rfl,_⟩:=hs
  rfl
 obtain ⟨v,B,t,rfl,hv,hL,k⟩:=hs
 refine ⟨_,(aC (aR (fP (aG bY rfl m_isinstance boot_isinstance (aj (pv 0) (aj (gJ (v:=.ty "tuple") rfl m_tuple boot_tuple rfl) ao))) (gY (aG (jq rfl) rfl m_all boot_all (aj (aZ ["thing"] (au bZ) ["each"] [none] rfl rfl rfl (cI (pv 0)) rfl (by decide +kernel) (by decide +kernel) (by decide +kernel) (by decide +kernel) (hg:=fun cl C s H ex pn E=>(aD (i:=0) (by decide +kernel:(["each"]:List Str).Nodup) rfl (Or.inl rfl))) (ht:=fun cl C s H ex pn E=>bh) (he:=fun cl C s H ex pn E=>(aK C_is_link_of_places hr (by decide) rfl (aj (pv 0) ao)))) ao)))))),?_⟩
 refine ⟨_,rfl,v, "tuple",B,t,rfl,hv,.inr (.inr (.inr rfl)),_,rfl,?_⟩
 refine dR (fun c=>?_) (fun c=>?_)
 ·obtain ⟨ts,rfl⟩:=(fB t).mp c
  obtain ⟨q,us,rfl,e,dl⟩:=fO hv
  have hl:=dl.len
  obtain ⟨hL1,hL2⟩:=hL.of
  refine ⟨_,rfl,q,rfl,⟨_,SqT.of e⟩,fun lc hlc=>?_⟩
  refine bF (J:=Itt K q) (l:=lc) ts.length (fun i σ' H'=>∃ v:Option V,σ'=[v]∧Same H H'∧H' lc=some (.lst (((ts.take i).map m9).map V.bl))) ⟨none,rfl,aq hlc _,ak⟩ ?_ ?_
  ·rintro σ' H1 ⟨v,rfl,s1,e1⟩
   refine ⟨⟨_,SqT.of (s1 _ _ e),by omega⟩,lc,_,rfl,SqL.of e1,?_⟩
   rw [um,List.take_length]
   exact k H1 s1
  ·rintro i σ' H1 hi ⟨v,rfl,s1,e1⟩
   have hil:i < us.length:=by omega
   refine ⟨⟨_,_,SqT.of (s1 _ _ e),bB hil⟩,?_⟩
   rintro y H2 ⟨rfl,hy⟩
   have ey:us[i]?=some y:=hy _ (SqT.of (s1 _ _ e))
   obtain ⟨t,ht,hd⟩:=dl.at_ ey
   rw [take_all ht]
   refine gN (jy (gB ⟨_,rfl,y,B,t,rfl,hd.same s1,hL2 t (List.mem_of_getElem? ht),fun H3 s3=>⟨_,s3 _ _ e1,aH (by rw [List.length_map,List.length_map,List.length_take]; omega),_,rfl,aU (s1.trans s3) hlc,ak⟩⟩))
 ·have e:jU t=false:=by
   cases t with
   | tup ts=>exact absurd ((fB _).mpr ⟨_,rfl⟩) c
   | _=>rfl
  have k:=k H (Same.refl H)
  rw [e] at k
  exact k
theorem iD:aP ["thing", "m", "n", "i", "j", "step", "counts"] ["thing", "m", "n"] (au jV):=⟨rfl,rfl,rfl,by decide +kernel,rfl,by decide +kernel,by decide +kernel⟩
theorem Cg (h:Has K mg "is_way" jV ["thing", "m", "n"]) (C_is_row_of_links:Cal P w K mg base "is_row_of_links" 4 ["thing"] (spG 3 jU)) (C_steps_from:Cal P w K mg base "steps_from" 2 ["i", "j", "m", "n"] iH) (C_passed:Cal P w K mg base "passed" 1 ["step"] oE) (m_all:mg "all" = none) (m_isinstance:mg "isinstance" = none) (m_tuple:mg "tuple" = none):Cal P w K mg base "is_way" 5 ["thing", "m", "n"] zV:=by
 refine h.mk' iD (fun vs H Q E hs=>?_) (fun f cdv A outer s H vs Q E hr hs=>?_)
 ·obtain ⟨v,m,n,B,t,rfl,_⟩:=hs
  rfl
 obtain ⟨v,m,n,B,t,rfl,hv,hL,hsm,hm,hn,k⟩:=hs
 refine ⟨_,(aB (dW (PW.pt (Br (uf (iZ (aG bY rfl m_isinstance boot_isinstance (aj (pv 0) (aj (gJ (v:=.ty "tuple") rfl m_tuple boot_tuple rfl) ao))))) (uN (uf (iZ (aG (jq rfl) rfl m_all boot_all (aj (aZ ["thing", "m", "n", "i", "j", "step", "counts"] (au jV) ["each"] [none] rfl rfl rfl (cI (pv 0)) rfl (by decide +kernel) (by decide +kernel) (by decide +kernel) (by decide +kernel) (hg:=fun cl C s H ex pn E=>(aD (i:=0) (by decide +kernel:(["each"]:List Str).Nodup) rfl (Or.inl rfl))) (ht:=fun cl C s H ex pn E=>bh) (he:=fun cl C s H ex pn E=>(aK C_is_row_of_links hr (by decide) rfl (aj (pv 0) ao)))) ao)))))))
   (aC (aR gn))
   bK)
  (aB (aW (i:=3) iD.nd rfl (Or.inl rfl) aA)
  (aB (aW (i:=4) iD.nd rfl (Or.inl rfl) aA)
  (aB (cW PassesOwn.never rfl (cI (pv 0)) (aD (i:=5) iD.nd rfl (Or.inl rfl))
   (aB (dW (aY (vP hr.units) (pv 5) (aK C_steps_from hr (by decide) rfl (aj (pv 3) (aj (pv 4) (aj (pv 1) (aj (pv 2) ao))))) (by with_unfolding_all rfl))
   (aC (aR gn))
   bK)
  (aB (aW (i:=6) iD.nd rfl (Or.inl rfl) (aK C_passed hr (by decide) rfl (aj (pv 5) ao)))
  (aB (Dr (i:=3) iD.nd rfl (Or.inl rfl) (bA bH (pv 6) aA (fun _ _=>rfl)) zE)
  (aC (Dr (i:=4) iD.nd rfl (Or.inl rfl) (bA bH (pv 6) aA (fun _ _=>rfl)) zE))))))
  (aC (aR (fP (gK gG (pv 3) (pv 1) (bG _)) (gY (gK gG (pv 4) (pv 2) (bG _)))))))))),?_⟩
 refine ⟨_,rfl,v, "tuple",B,t,rfl,hv,.inr (.inr (.inr rfl)),_,rfl,?_⟩
 have no:GR t=false→¬ ∃ way,t=thW way∧mG m n 0 0 way:=fun h=>by
  rintro ⟨way,rfl,_⟩
  rw [Di] at h
  cases h
 rcases Bool.eq_false_or_eq_true (BP "tuple" t) with c | c
 rotate_left
 ·rw [c]
  refine gB (k false H (Same.refl H) ⟨(fun z=>nomatch z),fun z=>absurd z (no ?_)⟩)
  cases t with
  | tup ts=>rw [(fB _).mpr ⟨_,rfl⟩] at c; cases c
  | _=>rfl
 rw [c]
 obtain ⟨ts,et⟩:=(fB t).mp c
 have hv2:=hv
 have hL2:=hL
 rw [et] at hv2 hL2
 obtain ⟨w,wus,ew,e,dl⟩:=fO hv2
 have hl:=dl.len
 obtain ⟨hL3,hL4⟩:=hL2.of
 clear hL2 hv2
 subst ew
 refine qM ⟨_,rfl,w,rfl,⟨_,SqT.of e⟩,fun lc hlc=>?_⟩
 refine bF (J:=Itt K w) (l:=lc) ts.length (fun i σ' H'=>∃ v:Option V,σ'=[v]∧Same H H'∧H' lc=some (.lst (((ts.take i).map jU).map V.bl))) ⟨none,rfl,aq hlc _,ak⟩ ?_ ?_
 rotate_left
 ·rintro i σ' H1 hi ⟨v,rfl,s1,e1⟩
  have hil:i < wus.length:=by omega
  refine ⟨⟨_,_,SqT.of (s1 _ _ e),bB hil⟩,?_⟩
  rintro y H2 ⟨rfl,hy⟩
  have ey:wus[i]?=some y:=hy _ (SqT.of (s1 _ _ e))
  obtain ⟨t',ht,hd⟩:=dl.at_ ey
  rw [take_all ht]
  refine gN (jy (gB ⟨_,rfl,y,B,t',rfl,hd.same s1,hL4 t' (List.mem_of_getElem? ht),fun H3 s3=>⟨_,s3 _ _ e1,aH (by rw [List.length_map,List.length_map,List.length_take]; omega),_,rfl,aU (s1.trans s3) hlc,ak⟩⟩))
 rintro σ' H1 ⟨v,rfl,s1,e1⟩
 refine ⟨⟨_,SqT.of (s1 _ _ e),by omega⟩,lc,_,rfl,SqL.of e1,_,rfl,?_⟩
 rw [um,List.take_length]
 have ea:ts.all jU=GR t:=by rw [et]; rfl
 rw [ea]
 cases hw:GR t with
 | false=>exact gB (k false H1 s1 ⟨(fun z=>nomatch z),fun z=>absurd z (no hw)⟩)
 | true =>
 obtain ⟨way,hway,sm⟩:=hsm hw
 have dw:cQ H wus (way.map stD):=by
  have h:=hv
  rw [hway,← oU] at h
  obtain ⟨p,vs,e1,e2,d⟩:=yg h
  cases e1
  rw [e] at e2
  cases e2
  exact d
 have hll:=dw.len
 rw [List.length_map] at hll
 have k:∀ (b:Bool) (H':Hp),Same H H'→(b=true↔mG m n 0 0 way)→Q (.bl b) H':=fun b H' s h=>k b H' s ⟨fun z=>⟨way,hway,h.mp z⟩,fun z=>by
  obtain ⟨w2,h1,h2⟩:=z
  rw [hway] at h1
  rw [← qY h1] at h2
  exact h.mpr h2⟩
 clear no hsm hL hL3 hL4 hv ea dl
 refine qM ⟨_,rfl,w,rfl,⟨_,SqT.of (s1 _ _ e)⟩,?_⟩
 clear e1 hlc
 refine jF (K:=K) (a:=w) (xs:=wus) (fun z σ H2=>∃ (v5 v6:Option V) (i j:Nat),σ=[some (.ref w),some (.int (m:Nat)),some (.int (n:Nat)),some (.int (i:Nat)),some (.int (j:Nat)),v5,v6]∧Same H H2∧i≤m∧j≤n∧(mG m n 0 0 way↔mG m n i j (way.drop z))) ⟨_,_,0,0,rfl,s1,Nat.zero_le _,Nat.zero_le _,Iff.rfl⟩ ?_ ?_ ?_
 ·rintro z σ H2 _ ⟨_,_,_,_,_,s2,_⟩
  exact SqT.of (s2 _ _ e)
 ·rintro z y σ H2 hz ⟨v5,v6,i,j,rfl,s2,hi,hj,hiff⟩
  have hzl:=(List.getElem?_eq_some_iff.mp hz).1
  have hzw:z < way.length:=by omega
  have dy:Den H y (stD way[z]):=at_of dw hz (by rw [List.getElem?_map,bB hzw]; rfl)
  have hsm:=sm _ (List.getElem_mem hzw)
  rw [List.drop_eq_getElem_cons hzw] at hiff
  generalize way[z]=st at dy hsm hiff
  refine gN ⟨_,rfl,_,rfl,_,rfl,_,rfl,_,rfl,i,j,m,n,rfl,hi,hj,hm,hn,fun q us ss H3 s3 eq dq hp=>?_⟩
  have s23:=s2.trans s3
  have dy3:=dy.same s23
  have hst:∀ s∈ss,iT 3 (stD s)∧Sim (stD s) (stD st):=fun s hs=>by
   obtain ⟨_,h2,h3⟩:=dz (hp.mem_iff.mp hs)
   exact ⟨rK (by omega) fun l hl=>⟨Nat.le_trans (h3 l hl).la (by decide),Nat.le_trans (h3 l hl).lb (by decide)⟩,Ea _ _⟩
  refine ⟨q,us,stD st,ss.map stD,3,rfl,.inr (SqT.of eq),dy3,dq,fun e he=>by obtain ⟨x,_,rfl⟩:=List.mem_map.mp he; exact ⟨_,rfl⟩,⟨_,rfl⟩,rK (by omega) fun l hl=>⟨by have:=hsm.2 l hl; omega,by have:=hsm.2 l hl; omega⟩,fun e he=>by obtain ⟨x,hx,rfl⟩:=List.mem_map.mp he; exact hst x hx,by decide,_,rfl,?_⟩
  refine dR (fun c=>?_) (fun c=>?_)
  ·refine k false H3 s23 ⟨(fun z=>nomatch z),fun z=>?_⟩
   have hm:=(hiff.mp z).1
   rw [Ec.mpr (hp.mem_iff.mpr hm)] at c
   cases c
  ·have hm:st∈aJ i j m n:=by
    refine hp.mem_iff.mp (Ec.mp ?_)
    cases h:((ss.map stD).any fun e=>eqD e (stD st)) with
    | true=>rfl
    | false=>rw [h] at c; exact absurd rfl c
   obtain ⟨g1,g2,g3⟩:=step_at hm
   refine ⟨_,rfl,y,st,rfl,dy3,hsm.1,fun p hp=>by have:=hsm.2 p hp; omega,fun r H4 s4 e4=>gN ?_⟩
   refine ⟨_,rfl,_,rfl,r,_,_,_,rfl,rfl,SqT.of e4,cD _ _,_,_,rfl,rfl,?_⟩
   refine ⟨_,rfl,_,rfl,r,_,_,_,rfl,rfl,SqT.of e4,bw (xs:=[V.int (sz1 st:Nat),V.int (sz2 st:Nat)]) (j:=1) rfl,_,_,rfl,rfl,?_⟩
   refine ⟨_,_,i+sz1 st,j+sz2 st,rfl,s23.trans s4,g1,g2,?_⟩
   rw [hiff]
   exact ⟨fun z=>z.2,fun z=>⟨hm,z⟩⟩
 ·rintro σ H2 ⟨v5,v6,i,j,rfl,s2,hi,hj,hiff⟩
  rw [hll,List.drop_length] at hiff
  refine ⟨_,rfl,_,rfl,rfl,_,rfl,?_⟩
  have di:∀ {a b:Nat},decide (V.int (a:Nat)=V.int (b:Nat))=decide (a=b):=fun {a b}=>decide_eq_decide.mpr ⟨fun z=>by injection z with z; omega,fun z=>by rw [z]⟩
  rw [di]
  refine dR (fun c=>?_) (fun c=>?_)
  ·refine ⟨_,rfl,_,rfl,rfl,?_⟩
   rw [di]
   refine k _ H2 s2 ?_
   rw [hiff,decide_eq_true_eq]
   exact ⟨fun z=>⟨of_decide_eq_true c,z⟩,fun z=>z.2⟩
  ·refine k false H2 s2 ⟨(fun z=>nomatch z),fun z=>?_⟩
   exact absurd (decide_eq_true (hiff.mp z).1) c
end
structure lD (H:Hp) (t w g:Addr) (m n:Nat) (c:Int) (way:List Stp) (F:Nat→Nat→Int) (wus gus:List V):Prop where
 e:H t=some (.tup [.int c,.ref w,.ref g])
 ew:H w=some (.tup wus)
 d:cQ H wus (way.map stD)
 sm:mq way
 g:sy H g m n F gus
 lw:way.length≤900
theorem lD.same {H H':Hp} {t w g:Addr} {m n:Nat} {c:Int} {way:List Stp} {F:Nat→Nat→Int} {wus gus:List V} (h:lD H t w g m n c way F wus gus) (s:Same H H'):lD H' t w g m n c way F wus gus:=⟨s _ _ h.e,s _ _ h.ew,h.d.same s,h.sm,h.g.same s,h.lw⟩
def Holds (m n:Nat) (c:Stp→Int) (F:Nat→Nat→Int):Prop:=∀ i j,i≤m→j≤n→∀ s∈aJ i j m n,F (i+sz1 s) (j+sz2 s) - F i j≤c s
structure pW (m n:Nat) (cost:Stp→Int) (c:Int) (way:List Stp) (F:Nat→Nat→Int):Prop where
 thru:mG m n 0 0 way
 sum:(way.map cost).sum=c
 z:F 0 0=0
 e:F m n=c
 holds:Holds m n cost F
def pA:Sp:=fun vs H Q _=>∃ (w l1 l2 qp:Addr) (wus:List V) (way:List Stp) (ns:List Int) (xs ys:List Str) (ps:List (Str × Str)),vs=[.ref w,.ref l1,.ref l2,.ref qp]∧H w=some (.tup wus)∧cQ H wus (way.map stD)∧(∀ s∈way,s.length≤2∧∀ l∈s,Ef xs.length ys.length l)∧way.length≤900∧iU H l1 l2 qp ns xs ys ps∧∀ H',Same H H'→Q (.int (way.map (bx ns xs ys ps)).sum) H'
def PW (t:Th):Prop:=∀ a b c,t=.tup [a,b,c]→GR b=true→∃ way,b=thW way∧mq way
def zZ:Sp:=fun vs H Q _=>∃ (v:V) (m n:Nat) (B:List Addr) (t:Th),vs=[v,.int (m:Nat),.int (n:Nat)]∧TgV B H v t∧LG 5 t∧PW t∧m≤30∧n≤30∧∀ (b:Bool) (H':Hp),Same H H'→(b=true↔∃ c way F,t=thT m n c way F∧mG m n 0 0 way)→Q (.bl b) H'
def xO:Sp:=fun vs H Q _=>∃ (g l1 l2 qp:Addr) (ns:List Int) (xs ys:List Str) (ps:List (Str × Str)) (F:Nat→Nat→Int) (gus:List V),vs=[.ref g,.ref l1,.ref l2,.ref qp]∧iU H l1 l2 qp ns xs ys ps∧sy H g xs.length ys.length F gus∧xs.length≤30∧ys.length≤30∧∀ (b:Bool) (H':Hp),Same H H'→(b=true↔Holds xs.length ys.length (bx ns xs ys ps) F)→Q (.bl b) H'
def yM (m n:Nat) (c:Stp→Int) (t:Th):Prop:=∃ k way F,t=thT m n k way F∧pW m n c k way F
def vR:Sp:=fun vs H Q _=>∃ (q1 q2 qw qp:Addr) (v:V) (xs ys:List Str) (us:List V) (ps:List (Str × Str)) (ns:List Int) (B:List Addr) (t:Th),vs=[.ref q1,.ref q2,.ref qw,.ref qp,v]∧H q1=some (.tup (xs.map V.str))∧H q2=some (.tup (ys.map V.str))∧xs.length≤30∧ys.length≤30∧(∀ x∈xs,x.length≤1000)∧(∀ x∈ys,x.length≤1000)∧H qw=some (.tup us)∧us.length≤1000∧PrT H us ps∧H qp=some (.tup (ns.map V.int))∧ns.length=5∧TgV B H v t∧LG 5 t∧PW t ∧
 ∀ (b:Bool) (H':Hp),Same H H'→(b=true↔yM xs.length ys.length (bx ns xs ys ps) t)→Q (.bl b) H'
theorem Fe {m n:Nat} {F G:Nat→Nat→Int} (h:thG m n F=thG m n G) {i j:Nat} (hi:i≤m) (hj:j≤n):F i j=G i j:=by
 have h1:=congrArg (fun l=>l[i]?) (Th.tup.inj h)
 simp only [List.getElem?_map,List.getElem?_range (show i < m+1 by omega)] at h1
 have h2:=congrArg (fun l=>l[j]?) (Th.tup.inj (Option.some.inj h1))
 simp only [List.getElem?_map,List.getElem?_range (show j < n+1 by omega)] at h2
 exact Th.int.inj (Option.some.inj h2)
theorem pW.of {m n:Nat} {cost:Stp→Int} {k c:Int} {w way:List Stp} {F G:Nat→Nat→Int} (h:pW m n cost k w F) (e:thT m n k w F=thT m n c way G):pW m n cost c way G:=by
 have e:=Th.tup.inj e
 injection e with e1 e2
 injection e2 with e2 e3
 injection e3 with e3
 have e1:=Th.int.inj e1
 have e2:=qY e2
 subst e1
 subst e2
 have eF:∀ {i j:Nat},i≤m→j≤n→F i j=G i j:=fun hi hj=>Fe e3 hi hj
 refine ⟨h.thru,h.sum,by rw [← eF (Nat.zero_le _) (Nat.zero_le _)]; exact h.z,by rw [← eF (Nat.le_refl _) (Nat.le_refl _)]; exact h.e,fun i j hi hj s hs=>?_⟩
 obtain ⟨g1,g2,_⟩:=step_at hs
 rw [← eF hi hj,← eF g1 g2]
 exact h.holds i j hi hj s hs
theorem Gw {B:List Addr} {H:Hp} {v:V} {m n:Nat} {c:Int} {way:List Stp} {F:Nat→Nat→Int} (h:TgV B H v (thT m n c way F)) (sm:mq way) (hl:way.length≤900):∃ (t w g:Addr) (wus gus:List V),v=.ref t∧lD H t w g m n c way F wus gus:=by
 obtain ⟨t,vs,rfl,e,dl⟩:=fO h
 match vs,dl with
 | [a,b,d],⟨h1,h2,h3,_⟩ =>
  have h1:a=.int c:=h1
  subst h1
  rw [← oU] at h2
  obtain ⟨w,wus,rfl,ew,dw⟩:=yg h2
  obtain ⟨g,gus,rfl,eg,dg⟩:=fO h3
  refine ⟨t,w,g,wus,gus,rfl,e,ew,dw,sm,⟨eg,by rw [dg.len,List.length_map,List.length_range],fun i u hu=>?_⟩,hl⟩
  obtain ⟨r,hr,dr⟩:=dg.at_ hu
  have hi:i < m+1:=by
   have:=(List.getElem?_eq_some_iff.mp hu).1
   rw [dg.len,List.length_map,List.length_range] at this
   exact this
  rw [List.getElem?_map,List.getElem?_range hi] at hr
  have hr:=Option.some.inj hr
  subst hr
  obtain ⟨a,us,rfl,ea,da⟩:=fO dr
  rw [uK da] at ea
  exact ⟨a,rfl,ea⟩
theorem Fd {B:List Addr} {H:Hp} {t w g:Addr} {m n:Nat} {c:Int} {way:List Stp} {F:Nat→Nat→Int} {wus gus:List V} (h:lD H t w g m n c way F wus gus):TgV B H (.ref t) (thT m n c way F):=by
 refine ⟨t,_,rfl,h.e,rfl,?_,?_,trivial⟩
 ·rw [← oU]
  exact DQ ⟨w,wus,rfl,h.ew,h.d⟩
 ·refine ⟨g,gus,rfl,h.g.e,?_⟩
  have aux:∀ (us:List V) (ts:List Th),us.length=ts.length→(∀ (i:Nat) (u:V) (t:Th),us[i]?=some u→ts[i]?=some t→TgV B H u t)→TgL B H us ts:=by
   intro us
   induction us with
   | nil =>
    intro ts hl _
    cases ts with
    | nil=>exact trivial
    | cons _ _=>cases hl
   | cons u us ih =>
    intro ts hl hk
    cases ts with
    | nil=>cases hl
    | cons t ts=>exact ⟨hk 0 u t rfl rfl,ih ts (by simpa using hl) fun i u' t' h1 h2=>hk (i+1) u' t' (by simpa using h1) (by simpa using h2)⟩
  refine aux _ _ (by rw [h.g.l,List.length_map,List.length_range]) fun i u t hu ht=>?_
  obtain ⟨a,rfl,ea⟩:=h.g.r i u hu
  have hi:i < m+1:=by
   have:=(List.getElem?_eq_some_iff.mp hu).1
   rw [h.g.l] at this
   exact this
  rw [List.getElem?_map,List.getElem?_range hi] at ht
  have ht:=Option.some.inj ht
  subst ht
  exact ⟨a,_,rfl,ea,uI _⟩
theorem M8 {t:Th} (h:qL 3 t=true):∃ a b c,t=.tup [a,b,c]:=by
 cases t with
 | tup ts =>
  have h:ts.length=3:=of_decide_eq_true h
  match ts,h with
  | [a,b,c],_=>exact ⟨a,b,c,rfl⟩
 | _=>cases h
theorem Jg {t:Th} (h:jr t=true):∃ i,t=.int i:=by
 cases t with
 | int i=>exact ⟨i,rfl⟩
 | _=>cases h
theorem Dt {α:Type} {xs:List α} {k:Nat} {v:α} (h:xs[k]?=some v) (hl:xs.length=k+1):atI xs (-1)=some v:=by
 unfold atI ixN
 rw [if_neg (by omega),if_pos (by omega)]
 show xs[((-1:Int)+xs.length).toNat]?=_
 rw [show ((-1:Int)+xs.length).toNat=k by omega]
 exact h
section
variable {P:Program} {w:World} {K:PySem.W.Frag} {mg:Str→Option Value} {base:Heap}
theorem yQ:aP ["way", "left", "right", "prices"] ["way", "left", "right", "prices"] (au fG):=⟨rfl,rfl,rfl,by decide +kernel,rfl,by decide +kernel,by decide +kernel⟩
theorem vm (h:Has K mg "way_cost" fG ["way", "left", "right", "prices"]) (C_step_cost:Cal P w K mg base "step_cost" 4 ["step", "left", "right", "prices"] jz) (m_sum:mg "sum" = none):Cal P w K mg base "way_cost" 5 ["way", "left", "right", "prices"] pA:=by
 refine h.mk' yQ (fun vs H Q E hs=>?_) (fun f cdv A outer s H vs Q E hr hs=>?_)
 ·obtain ⟨w,l1,l2,qp,wus,way,ns,xs,ys,ps,rfl,_⟩:=hs
  rfl
 obtain ⟨w,l1,l2,qp,wus,way,ns,xs,ys,ps,rfl,e,dw,hin,hl,hC,k⟩:=hs
 refine ⟨_,(aC (aR (aG (cV rfl) rfl m_sum boot_sum (aj (aZ ["way", "left", "right", "prices"] (au fG) ["left", "right", "prices", "step"] [some 1,some 2,some 3,none] rfl rfl rfl (cI (pv 0)) rfl (by decide +kernel) (by decide +kernel) (by decide +kernel) (by decide +kernel) (hg:=fun cl C s H ex pn E=>(aD (i:=3) (by decide +kernel:(["left", "right", "prices", "step"]:List Str).Nodup) rfl (Or.inl rfl))) (ht:=fun cl C s H ex pn E=>bh) (he:=fun cl C s H ex pn E=>(aK C_step_cost hr (by decide) rfl (aj (pv 3) (aj (pv 0) (aj (pv 1) (aj (pv 2) ao))))))) ao)))),?_⟩
 have hll:=dw.len
 rw [List.length_map] at hll
 refine ⟨_,rfl,w,rfl,⟨_,SqT.of e⟩,fun lc hlc=>?_⟩
 refine bF (J:=Itt K w) (l:=lc) way.length (fun i σ' H'=>∃ v3:Option V,σ'=[some (.ref l1),some (.ref l2),some (.ref qp),v3]∧Same H H'∧H' lc=some (.lst (((way.take i).map (bx ns xs ys ps)).map V.int))) ⟨none,rfl,aq hlc _,ak⟩ ?_ ?_
 ·rintro σ' H1 ⟨v3,rfl,s1,e1⟩
  rw [List.take_length] at e1
  exact ⟨⟨_,SqT.of (s1 _ _ e),by omega⟩,lc,_,rfl,SqL.of e1,k H1 s1⟩
 ·rintro i σ' H1 hi ⟨v3,rfl,s1,e1⟩
  have hil:i < wus.length:=by omega
  refine ⟨⟨_,_,SqT.of (s1 _ _ e),bB hil⟩,?_⟩
  rintro y H2 ⟨rfl,hy⟩
  have ey:y=wus[i]:=Option.some.inj ((hy _ (SqT.of (s1 _ _ e))).symm.trans (bB hil))
  have dy:Den H wus[i] (stD way[i]):=at_of dw (bB hil) (by rw [List.getElem?_map,bB hi]; rfl)
  have hini:=hin _ (List.getElem_mem hi)
  have htk:((way.take (i+1)).map (bx ns xs ys ps)).map V.int=((way.take i).map (bx ns xs ys ps)).map V.int++[.int (bx ns xs ys ps way[i])]:=by rw [take_one (bB hi),List.map_append,List.map_append]; rfl
  rw [htk]
  rw [← ey] at dy
  refine gN (jy (gB ⟨_,rfl,_,rfl,_,rfl,_,rfl,y,l1,l2,qp,way[i],ns,xs,ys,ps,rfl,dy.same s1,hini.2,hini.1,hC.same s1,fun H3 s3=>?_⟩))
  exact ⟨_,s3 _ _ e1,aH (by rw [List.length_map,List.length_map,List.length_take]; omega),_,rfl,aU (s1.trans s3) hlc,ak⟩
theorem zF:aP ["thing", "m", "n"] ["thing", "m", "n"] (au gj):=⟨rfl,rfl,rfl,by decide +kernel,rfl,by decide +kernel,by decide +kernel⟩
theorem vH (h:Has K mg "is_found" gj ["thing", "m", "n"]) (C_is_row_of:Cal P w K mg base "is_row_of" 1 ["thing", "count"] mV) (C_is_grid:Cal P w K mg base "is_grid" 3 ["thing", "rows", "columns"] uD) (C_is_way:Cal P w K mg base "is_way" 5 ["thing", "m", "n"] zV) (C_is_number:Cal P w K mg base "is_number" 1 ["thing"] (spG 0 jr)):Cal P w K mg base "is_found" 6 ["thing", "m", "n"] zZ:=by
 refine h.mk' zF (fun vs H Q E hs=>?_) (fun f cdv A outer s H vs Q E hr hs=>?_)
 ·obtain ⟨v,m,n,B,t,rfl,_⟩:=hs
  rfl
 obtain ⟨v,m,n,B,t,rfl,hv,hL,hP,hm,hn,k⟩:=hs
 refine ⟨_,(aB (dW (uf (iZ (aK C_is_row_of hr (by decide) rfl (aj (pv 0) (aj aA ao)))))
   (aC (aR gn))
   bK)
  (aC (aR (fP (aK C_is_number hr (by decide) rfl (aj (bA bH (pv 0) aA (fun _ _=>rfl)) ao)) (fP (aK C_is_way hr (by decide) rfl (aj (bA bH (pv 0) aA (fun _ _=>rfl)) (aj (pv 1) (aj (pv 2) ao)))) (gY (aK C_is_grid hr (by decide) rfl (aj (bA bH (pv 0) aA (fun _ _=>rfl)) (aj (aX bI (pv 1) aA) (aj (aX bI (pv 2) aA) ao)))))))))),?_⟩
 have kf:∀ H',Same H H'→(¬ ∃ c way F,t=thT m n c way F∧mG m n 0 0 way)→Q (.bl false) H':=fun H' s h=>k false H' s ⟨(fun z=>nomatch z),fun z=>absurd z h⟩
 refine ⟨_,rfl,v,3,B,t,rfl,hv,_,rfl,?_⟩
 rcases Bool.eq_false_or_eq_true (qL 3 t) with c | c
 rotate_left
 ·rw [c]
  refine gB (kf H (Same.refl H) ?_)
  rintro ⟨c',way,F,rfl,_⟩
  cases c
 rw [c]
 obtain ⟨a,b,d,et⟩:=M8 c
 have hv2:=hv
 have hL2:=hL
 rw [et] at hv2 hL2
 obtain ⟨q,us,ev,e,dl⟩:=fO hv2
 obtain ⟨x,y,z,eu⟩:∃ x y z,us=[x,y,z]:=by
  have hl:=dl.len
  match us,hl with
  | [x,y,z],_=>exact ⟨x,y,z,rfl⟩
 rw [eu] at dl e
 obtain ⟨da,db,dd,_⟩:=dl
 have hL3:=hL2.of.2
 have a0:atI [x,y,z] 0=some x:=cD _ _
 have a1:atI [x,y,z] 1=some y:=bw (xs:=[x,y,z]) (j:=1) rfl
 have a2:atI [x,y,z] 2=some z:=bw (xs:=[x,y,z]) (j:=2) rfl
 subst ev
 refine qM ⟨_,rfl,q,_,_,_,rfl,rfl,SqT.of e,a0,x,B,a,rfl,da,trivial,fun H1 s1=>⟨_,rfl,?_⟩⟩
 refine dR (fun c1=>?_) (fun c1=>?_)
 rotate_left
 ·refine kf H1 s1 ?_
  rintro ⟨c',way,F,e2,_⟩
  rw [et] at e2
  have e2:=Th.tup.inj e2
  injection e2 with e2 _
  rw [e2] at c1
  exact absurd rfl c1
 obtain ⟨i,rfl⟩:=Jg c1
 refine ⟨_,rfl,q,_,_,_,rfl,rfl,SqT.of (s1 _ _ e),a1,_,rfl,_,rfl,y,m,n,B,b,rfl,db.same s1,hL3 b (by simp),hP _ _ _ et,by omega,by omega,fun b2 H2 s2 hb=>⟨_,rfl,?_⟩⟩
 have s02:=s1.trans s2
 cases b2 with
 | false =>
  refine qM (kf H2 s02 ?_)
  rintro ⟨c',way,F,e2,hth⟩
  rw [et] at e2
  have e2:=Th.tup.inj e2
  injection e2 with _ e2
  injection e2 with e2 _
  exact absurd (hb.mpr ⟨way,e2,hth⟩) (by decide)
 | true =>
  obtain ⟨way,rfl,hth⟩:=hb.mp rfl
  have hLd:LG 4 d:=hL3 d (by simp)
  have hLd:LG 2 d:=by
   cases d with
   | tup ts=>exact ⟨hLd.1,fun t ht=>by
     have h:=hLd.2 t ht
     cases t with
     | tup us=>exact ⟨h.1,fun _ _=>trivial⟩
     | _=>exact trivial⟩
   | _=>exact trivial
  refine gB ⟨_,rfl,q,_,_,_,rfl,rfl,SqT.of (s02 _ _ e),a2,_,rfl,_,_,rfl,rfl,_,rfl,_,_,rfl,rfl,z,m+1,n+1,B,d,rfl,dd.same s02,hLd,fun H3 s3=>?_⟩
  refine k _ H3 (s02.trans s3) ?_
  rw [uz]
  constructor
  ·rintro ⟨F,rfl⟩
   exact ⟨i,way,F,et,hth⟩
  ·rintro ⟨c',way',F,e2,_⟩
   rw [et] at e2
   have e2:=Th.tup.inj e2
   injection e2 with _ e2
   injection e2 with _ e2
   injection e2 with e2 _
   exact ⟨F,e2⟩
theorem bJ:aP ["grid", "left", "right", "prices", "i", "row", "j", "number", "step", "cost", "end"] ["grid", "left", "right", "prices"] (au cu):=⟨rfl,rfl,rfl,by decide +kernel,rfl,by decide +kernel,by decide +kernel⟩
theorem jg (h:Has K mg "no_step_is_short" cu ["grid", "left", "right", "prices"]) (C_priced_steps:Cal P w K mg base "priced_steps" 5 ["i", "j", "left", "right", "prices"] sJ) (m_enumerate:mg "enumerate" = none):Cal P w K mg base "no_step_is_short" 6 ["grid", "left", "right", "prices"] xO:=by
 refine h.mk' bJ (fun vs H Q E hs=>?_) (fun f cdv A outer s H vs Q E hr hs=>?_)
 ·obtain ⟨g,l1,l2,qp,ns,xs,ys,ps,F,gus,rfl,_⟩:=hs
  rfl
 obtain ⟨g,l1,l2,qp,ns,xs,ys,ps,F,gus,rfl,hC,hG,hm,hn,k⟩:=hs
 refine ⟨_,(aB (cW PassesOwn.never rfl (nU rfl m_enumerate (aj (pv 0) ao)) (cR (n:=2) rfl (aL (aD (i:=4) bJ.nd rfl (Or.inl rfl)) (aL (aD (i:=5) bJ.nd rfl (Or.inl rfl)) bU)))
   (aC (cW PassesOwn.never rfl (nU rfl m_enumerate (aj (pv 5) ao)) (cR (n:=2) rfl (aL (aD (i:=6) bJ.nd rfl (Or.inl rfl)) (aL (aD (i:=7) bJ.nd rfl (Or.inl rfl)) bU)))
   (aC (cW PassesOwn.never rfl (cZ (aK C_priced_steps hr (by decide) rfl (aj (pv 4) (aj (pv 6) (aj (pv 1) (aj (pv 2) (aj (pv 3) ao))))))) (cR (n:=3) rfl (aL (aD (i:=8) bJ.nd rfl (Or.inl rfl)) (aL (aD (i:=9) bJ.nd rfl (Or.inl rfl)) (aL (aD (i:=10) bJ.nd rfl (Or.inl rfl)) bU))))
   (aC (dW (aY BK (aX gF (bA bH (bA bH (pv 0) (bA bH (pv 10) aA (fun _ _=>rfl)) (fun _ _=>rfl)) (bA bH (pv 10) aA (fun _ _=>rfl)) (fun _ _=>rfl)) (pv 7)) (pv 9) (bG _))
   (aC (aR gn))
   bK)))))))
  (aC (aR gn))),?_⟩
 have hgl:=hG.l
 refine ⟨_,rfl,g,rfl,⟨_,SqT.of hG.e⟩,?_⟩
 refine oO (K:=K) (a:=g) (xs:=gus) (fun x σ H1=>∃ (v4 v5 v6 v7 v8 v9 v10:Option V),σ=[some (.ref g),some (.ref l1),some (.ref l2),some (.ref qp),v4,v5,v6,v7,v8,v9,v10]∧Same H H1∧∀ i j,i < x→i≤xs.length→j≤ys.length→∀ s∈aJ i j xs.length ys.length,F (i+sz1 s) (j+sz2 s) - F i j≤bx ns xs ys ps s) ⟨_,_,_,_,_,_,_,rfl,Same.refl _,fun i j hi=>by omega⟩ ?_ ?_ ?_
 ·rintro x σ H1 _ ⟨_,_,_,_,_,_,_,_,s1,_⟩
  exact SqT.of (s1 _ _ hG.e)
 ·rintro x u t0 σ H1 hx ⟨v4,v5,v6,v7,v8,v9,v10,rfl,s1,hok⟩ ht0
  have hxl:=(List.getElem?_eq_some_iff.mp hx).1
  have s1':=s1.trans (aq ht0 (.tup [.int (x:Nat),u]))
  obtain ⟨a,rfl,ha⟩:=hG.r x u hx
  refine ⟨t0,_,rfl,SqT.of ak,rfl,_,_,rfl,_,_,rfl,rfl,?_⟩
  generalize upd H1 t0 (.tup [.int (x:Nat),.ref a])=H2 at s1' ⊢
  refine ⟨_,rfl,a,rfl,⟨_,SqT.of (s1' _ _ ha)⟩,?_⟩
  refine oO (K:=K) (a:=a) (xs:=((List.range (ys.length+1)).map (F x)).map V.int) (fun y σ H3=>∃ (v6 v7 v8 v9 v10:Option V),σ=[some (.ref g),some (.ref l1),some (.ref l2),some (.ref qp),some (.int (x:Nat)),some (.ref a),v6,v7,v8,v9,v10]∧Same H H3∧∀ j,j < y→j≤ys.length→∀ s∈aJ x j xs.length ys.length,F (x+sz1 s) (j+sz2 s) - F x j≤bx ns xs ys ps s) ⟨_,_,_,_,_,rfl,s1',fun j hj=>by omega⟩ ?_ ?_ ?_
  ·rintro y σ H3 _ ⟨_,_,_,_,_,_,s3,_⟩
   exact SqT.of (s3 _ _ ha)
  ·rintro y u t1 σ H3 hy ⟨v6,v7,v8,v9,v10,rfl,s3,hok2⟩ ht1
   have hyl:=(List.getElem?_eq_some_iff.mp hy).1
   rw [List.length_map,List.length_map,List.length_range] at hyl
   rw [wJ (by omega)] at hy
   have eu:u=.int (F x y):=(Option.some.inj hy).symm
   subst eu
   have s3':=s3.trans (aq ht1 (.tup [.int (y:Nat),.int (F x y)]))
   refine ⟨t1,_,rfl,SqT.of ak,rfl,_,_,rfl,_,_,rfl,rfl,?_⟩
   generalize upd H3 t1 (.tup [.int (y:Nat),.int (F x y)])=H4 at s3' ⊢
   refine ⟨_,rfl,_,rfl,_,rfl,_,rfl,_,rfl,x,y,l1,l2,qp,ns,xs,ys,ps,rfl,hC.same s3',by omega,by omega,by omega,by omega,fun l us ss H5 s5 hl5 e5 d5 hp=>?_⟩
   have s05:=s3'.trans s5
   have hul:=d5.len
   rw [List.length_map] at hul
   refine ⟨l,rfl,⟨_,SqL.of e5⟩,?_⟩
   refine ji (K:=K) (a:=l) (xs:=us) (fun z σ H6=>∃ (v8 v9 v10:Option V),σ=[some (.ref g),some (.ref l1),some (.ref l2),some (.ref qp),some (.int (x:Nat)),some (.ref a),some (.int (y:Nat)),some (.int (F x y)),v8,v9,v10]∧Same H5 H6∧∀ s∈ss.take z,F (x+sz1 s) (y+sz2 s) - F x y≤bx ns xs ys ps s) ⟨_,_,_,rfl,Same.refl _,fun s hs=>by cases hs⟩ ?_ ?_ ?_
   ·rintro z σ H6 _ ⟨_,_,_,_,s6,_⟩
    exact SqL.of (s6 _ _ e5)
   ·rintro z u σ H6 hz ⟨v8,v9,v10,rfl,s6,hok3⟩
    have hzl:=(List.getElem?_eq_some_iff.mp hz).1
    have hzs:z < ss.length:=by omega
    have dy:Den H6 u (psD (bx ns xs ys ps) x y ss[z]):=(at_of d5 hz (by rw [List.getElem?_map,bB hzs]; rfl)).same s6
    have hst:=hp.mem_iff.mp (List.getElem_mem hzs)
    have htk:=take_one (bB hzs)
    rw [htk]
    clear htk
    generalize ss[z]=st at dy hst ⊢
    obtain ⟨t,te,xv,rfl,ht,dx,hte⟩:=K5 dy
    obtain ⟨g1,g2,g3⟩:=step_at hst
    have s06:=s05.trans s6
    obtain ⟨ra,row,q1,q2,_,q3⟩:=(hG.same s06).get g1 g2
    refine ⟨t,_,rfl,SqT.of ht,rfl,_,_,rfl,_,_,rfl,_,_,rfl,rfl,?_⟩
    refine ⟨_,rfl,_,rfl,te,_,_,_,rfl,rfl,SqT.of hte,cD _ _,g,_,_,_,rfl,rfl,SqT.of (s06 _ _ hG.e),bw q1,_,rfl,te,_,_,_,rfl,rfl,SqT.of hte,bw (xs:=[V.int ((x+sz1 st:Nat):Int),V.int ((y+sz2 st:Nat):Int)]) (j:=1) rfl,ra,_,_,_,rfl,rfl,SqT.of q2,bw q3,_,rfl,_,_,rfl,rfl,_,rfl,_,_,rfl,rfl,_,rfl,?_⟩
    refine dR (fun c=>?_) (fun c=>?_)
    ·have c:=of_decide_eq_true c
     refine k false H6 s06 ⟨(fun z=>nomatch z),fun z=>?_⟩
     have:=z x y (by omega) (by omega) st hst
     omega
    ·refine ⟨_,_,_,rfl,s6,fun s hs=>?_⟩
     rcases List.mem_append.mp hs with hs | hs
     ·exact hok3 s hs
     ·rw [List.mem_singleton.mp hs]
      exact Int.not_lt.mp fun z=>c (decide_eq_true z)
   ·rintro σ H6 ⟨v8,v9,v10,rfl,s6,hok3⟩
    rw [hul,List.take_length] at hok3
    refine ⟨_,_,_,_,_,rfl,s05.trans s6,fun j hj hjn s hs=>?_⟩
    by_cases e:j=y
    ·subst e
     exact hok3 s (hp.mem_iff.mpr hs)
    ·exact hok2 j (by omega) hjn s hs
  ·rintro σ H3 ⟨v6,v7,v8,v9,v10,rfl,s3,hok2⟩
   refine ⟨_,_,_,_,_,_,_,rfl,s3,fun i j hi him hjn s hs=>?_⟩
   by_cases e:i=x
   ·subst e
    exact hok2 j (by rw [List.length_map,List.length_map,List.length_range]; omega) hjn s hs
   ·exact hok i j (by omega) him hjn s hs
 ·rintro σ H1 ⟨v4,v5,v6,v7,v8,v9,v10,rfl,s1,hok⟩
  exact k true H1 s1 ⟨fun _ i j hi hj s hs=>hok i j (by omega) hi hj s hs,fun _=>rfl⟩
theorem eE:aP ["ones", "others", "words", "prices", "told", "left", "right", "cost", "grid"] ["ones", "others", "words", "prices", "told"] (au cY):=⟨rfl,rfl,rfl,by decide +kernel,rfl,by decide +kernel,by decide +kernel⟩
theorem nj (h:Has K mg "shows_found" cY ["ones", "others", "words", "prices", "told"]) (C_is_found:Cal P w K mg base "is_found" 6 ["thing", "m", "n"] zZ) (C_measured:Cal P w K mg base "measured" 6 ["texts", "words", "side"] mj) (C_way_cost:Cal P w K mg base "way_cost" 5 ["way", "left", "right", "prices"] pA) (C_no_step_is_short:Cal P w K mg base "no_step_is_short" 6 ["grid", "left", "right", "prices"] xO) (m_len:mg "len" = none):Cal P w K mg base "shows_found" 7 ["ones", "others", "words", "prices", "told"] vR:=by
 refine h.mk' eE (fun vs H Q E hs=>?_) (fun f cdv A outer s H vs Q E hr hs=>?_)
 ·obtain ⟨q1,q2,qw,qp,v,xs,ys,us,ps,ns,B,t,rfl,_⟩:=hs
  rfl
 obtain ⟨q1,q2,qw,qp,v,xs,ys,us,ps,ns,B,tt,rfl,h1,h2,hx,hy,hx2,hy2,hw,hu,hP,hqp,hns,hv,hL,hPW,k⟩:=hs
 refine ⟨_,(aB (dW (uf (iZ (aK C_is_found hr (by decide) rfl (aj (pv 4) (aj (aG aQ rfl m_len PySem.boot_len (aj (pv 0) ao)) (aj (aG aQ rfl m_len PySem.boot_len (aj (pv 1) ao)) ao))))))
   (aC (aR gn))
   bK)
  (aB (aW (i:=5) eE.nd rfl (Or.inl rfl) (aK C_measured hr (by decide) rfl (aj (pv 0) (aj (pv 2) (aj aA ao)))))
  (aB (aW (i:=6) eE.nd rfl (Or.inl rfl) (aK C_measured hr (by decide) rfl (aj (pv 1) (aj (pv 2) (aj aA ao)))))
  (aB (aW (i:=7) eE.nd rfl (Or.inl rfl) (bA bH (pv 4) aA (fun _ _=>rfl)))
  (aB (aW (i:=8) eE.nd rfl (Or.inl rfl) (bA bH (pv 4) aA (fun _ _=>rfl)))
  (aB (dW (aY Hw (aK C_way_cost hr (by decide) rfl (aj (bA bH (pv 4) aA (fun _ _=>rfl)) (aj (pv 5) (aj (pv 6) (aj (pv 3) ao))))) (pv 7) (bG _))
   (aC (aR gn))
   bK)
  (aC (aR (fP (gK gG (bA bH (bA bH (pv 8) aA (fun _ _=>rfl)) aA (fun _ _=>rfl)) aA (bG _)) (fP (gK gG (bA bH (bA bH (pv 8) (oN jR aA) (fun _ _=>rfl)) (oN jR aA) (fun _ _=>rfl)) (pv 7) (bG _)) (gY (aK C_no_step_is_short hr (by decide) rfl (aj (pv 8) (aj (pv 5) (aj (pv 6) (aj (pv 3) ao)))))))))))))))),?_⟩
 have hpl:ps.length≤1000:=by rw [← hP.1]; exact hu
 have di:∀ {a b:Int},decide (V.int a=V.int b)=decide (a=b):=fun {a b}=>decide_eq_decide.mpr ⟨fun z=>by injection z,fun z=>by rw [z]⟩
 refine ⟨_,rfl,_,rfl,q1,_,rfl,.inr (SqT.of h1),_,rfl,q2,_,rfl,.inr (SqT.of h2),v,xs.length,ys.length,B,tt,by rw [List.length_map,List.length_map]; rfl,hv,hL,hPW,hx,hy,fun b H1 s1 hb=>⟨_,rfl,?_⟩⟩
 cases b with
 | false =>
  refine gB (k false H1 s1 ⟨(fun z=>nomatch z),?_⟩)
  rintro ⟨c,way,F,e,hS⟩
  exact hb.mpr ⟨c,way,F,e,hS.thru⟩
 | true =>
  obtain ⟨c,way,F,ett,hth⟩:=hb.mp rfl
  have hsm:=eY hth (Nat.zero_le _) (Nat.zero_le _)
  have hvt:=hv
  rw [ett] at hvt
  obtain ⟨t,w,g,wus,gus,ev,hT⟩:=Gw hvt (fun s hs=>⟨(hsm.2 s hs).2.1,fun p hp=>⟨Nat.le_trans ((hsm.2 s hs).2.2 p hp).la (by decide),Nat.le_trans ((hsm.2 s hs).2.2 p hp).lb (by decide)⟩⟩) (by omega)
  have k:∀ (b:Bool) (H':Hp),Same H H'→(b=true↔pW xs.length ys.length (bx ns xs ys ps) c way F)→Q (.bl b) H':=fun b H' s h=>k b H' s ⟨fun z=>⟨c,way,F,ett,h.mp z⟩,fun z=>by
   obtain ⟨c',way',F',e',hS⟩:=z
   exact h.mpr (hS.of (e'.symm.trans ett))⟩
  subst ev
  clear hvt hv hL hPW hb
  have a0:atI [V.int c,.ref w,.ref g] 0=some (.int c):=cD _ _
  have a1:atI [V.int c,.ref w,.ref g] 1=some (.ref w):=bw (xs:=[V.int c,.ref w,.ref g]) (j:=1) rfl
  have a2:atI [V.int c,.ref w,.ref g] 2=some (.ref g):=bw (xs:=[V.int c,.ref w,.ref g]) (j:=2) rfl
  refine qM ⟨_,rfl,_,rfl,q1,qw,0,xs,us,ps,rfl,by decide,s1 _ _ h1,by omega,hx2,s1 _ _ hw,hu,hP.same s1,fun l1 H2 s2 m1=>?_⟩
  have s02:=s1.trans s2
  refine gN ⟨_,rfl,_,rfl,q2,qw,1,ys,us,ps,rfl,by decide,s02 _ _ h2,by omega,hy2,s02 _ _ hw,hu,hP.same s02,fun l2 H3 s3 m2=>?_⟩
  have s03:=s02.trans s3
  have hT3:=hT.same s03
  have hC:iU H3 l1 l2 qp ns xs ys ps:=⟨m1.same s3,m2,s03 _ _ hqp,hns,hx2,hy2,hpl⟩
  refine gN ⟨_,rfl,t,_,_,_,rfl,rfl,SqT.of hT3.e,a0,gN ⟨_,rfl,t,_,_,_,rfl,rfl,SqT.of hT3.e,a2,gN ?_⟩⟩
  refine ⟨_,rfl,t,_,_,_,rfl,rfl,SqT.of hT3.e,a1,_,rfl,_,rfl,_,rfl,w,l1,l2,qp,wus,way,ns,xs,ys,ps,rfl,hT3.ew,hT3.d,fun s hs=>(hsm.2 s hs).2,hT3.lw,hC,fun H4 s4=>?_⟩
  have s04:=s03.trans s4
  have hT4:=hT3.same s4
  refine ⟨_,rfl,rfl,_,rfl,?_⟩
  rw [di]
  refine dR (fun cc=>?_) (fun cc=>?_)
  ·refine k false H4 s04 ⟨(fun z=>nomatch z),fun z=>?_⟩
   rw [decide_eq_true z.sum] at cc
   cases cc
  ·have hsum:(way.map (bx ns xs ys ps)).sum=c:=by
    by_cases z:(way.map (bx ns xs ys ps)).sum=c
    ·exact z
    ·rw [decide_eq_false z] at cc
     exact absurd rfl cc
   obtain ⟨ra,row,u1,u2,u3,u4⟩:=hT4.g.get (i:=0) (j:=0) (Nat.zero_le _) (Nat.zero_le _)
   obtain ⟨rb,rol,w1,w2,w3,w4⟩:=hT4.g.get (i:=xs.length) (j:=ys.length) (Nat.le_refl _) (Nat.le_refl _)
   refine ⟨_,rfl,g,_,_,_,rfl,rfl,SqT.of hT4.g.e,bw (j:=0) u1,ra,_,_,_,rfl,rfl,SqT.of u2,bw (j:=0) u4,rfl,_,rfl,?_⟩
   rw [di]
   refine dR (fun c1=>?_) (fun c1=>?_)
   ·refine ⟨_,rfl,_,rfl,g,_,_,_,rfl,rfl,SqT.of hT4.g.e,Dt w1 hT4.g.l,_,rfl,rb,_,_,_,rfl,rfl,SqT.of w2,Dt w4 w3,_,rfl,rfl,_,rfl,?_⟩
    rw [di]
    refine dR (fun c2=>?_) (fun c2=>?_)
    ·exact ⟨_,rfl,_,rfl,_,rfl,_,rfl,g,l1,l2,qp,ns,xs,ys,ps,F,gus,rfl,hC.same s4,hT4.g,hx,hy,fun b H5 s5 hb5=>k b H5 (s04.trans s5) ⟨fun z=>⟨hth,hsum,of_decide_eq_true c1,of_decide_eq_true c2,hb5.mp z⟩,fun z=>hb5.mpr z.holds⟩⟩
    ·exact k false H4 s04 ⟨(fun z=>nomatch z),fun z=>absurd (decide_eq_true z.e) c2⟩
   ·exact k false H4 s04 ⟨(fun z=>nomatch z),fun z=>absurd (decide_eq_true z.z) c1⟩
end
structure Asc (n:Nat) (x:Str):Prop where
 l:x.length≤n
 c:∀ c∈x.cps.toList,c < 128
theorem n6 (x:Str):x=⟨x.cps.toList.toArray⟩:=by cases x; simp
theorem vG (x:Str):x.cps.toList.length=x.length:=by simp [Str.length]
theorem Asc.mono {n m:Nat} {x:Str} (h:Asc n x) (k:n≤m):Asc m x:=⟨Nat.le_trans h.l k,h.c⟩
theorem Asc.app {n m:Nat} {x y:Str} (h:Asc n x) (k:Asc m y):Asc (n+m) (x++y):=by
 constructor
 ·have e:(x++y).length=x.length+y.length:=by
   show (x.cps++y.cps).size=_
   exact Array.size_append
  have:=h.l
  have:=k.l
  omega
 ·intro c hc
  have hc':c∈(x.cps++y.cps).toList:=hc
  rw [Array.toList_append,List.mem_append] at hc'
  exact hc'.elim (h.c c) (k.c c)
theorem Asc.slice {n:Nat} {x:Str} (h:Asc n x) (lo hi:Option Int):Asc n (Txt.slice x lo hi):=by
 refine ⟨Nat.le_trans (Txt.slice_le x lo hi) h.l,fun c hc=>?_⟩
 unfold Txt.slice at hc
 split at hc
 ·exact h.c c hc
 ·simp only [List.toList_toArray,List.mem_filterMap] at hc
  obtain ⟨i,_,e⟩:=hc
  refine h.c c ?_
  have:x.cps.toList[i]?=some c:=by simpa using e
  exact List.mem_of_getElem? this
theorem Asc.up {n:Nat} {x:Str} (h:Asc n x):Asc n ⟨(x.cps.toList.map up1).toArray⟩:=by
 constructor
 ·show ((x.cps.toList.map up1).toArray).size≤n
  rw [List.size_toArray,List.length_map,vG]
  exact h.l
 ·intro c hc
  have hc':c∈x.cps.toList.map up1:=by simpa using hc
  obtain ⟨d,hd,rfl⟩:=List.mem_map.mp hc'
  exact IW (h.c d hd)
theorem Asc.ones {cs:List Nat} {n:Nat} {y:Str} (hy:y=⟨#[]⟩) (hl:cs.length≤n) (h:∀ c∈cs,c < 128):Asc n (Str.join y (cs.map fun c=>(⟨#[c]⟩:Str))):=by
 subst hy
 rw [join_ones]
 exact ⟨by show cs.toArray.size≤n; simpa using hl,fun c hc=>h c (by simpa using hc)⟩
theorem jd {L:List Str} {r:Int} (h0:0≤r) (h1:r < (L.length:Nat)):∃ x,x∈L∧atI (L.map V.str) r=some (.str x):=by
 obtain ⟨v,hv,hm⟩:=yL (xs:=L.map V.str) h0 (by rw [List.length_map]; exact h1)
 obtain ⟨x,hx,rfl⟩:=List.mem_map.mp hm
 exact ⟨x,hx,hv⟩
theorem mX {L:List Int} {r:Int} (h0:0≤r) (h1:r < (L.length:Nat)):∃ x,x∈L∧atI (L.map V.int) r=some (.int x):=by
 obtain ⟨v,hv,hm⟩:=yL (xs:=L.map V.int) h0 (by rw [List.length_map]; exact h1)
 obtain ⟨x,hx,rfl⟩:=List.mem_map.mp hm
 exact ⟨x,hx,hv⟩
def vO (cs:List Str) (n:Nat):Nat:=(cs.filter fun y=>decide (n≤y.length)).length
theorem Er (cs:List Str) (n:Nat):vO cs (n+1)≤vO cs n:=by
 induction cs with
 | nil=>exact Nat.le_refl _
 | cons y cs ih =>
  unfold vO at *
  by_cases h:n+1≤y.length
  ·rw [List.filter_cons_of_pos (by simpa using h),List.filter_cons_of_pos (by simpa using (show n≤y.length by omega))]
   simpa using ih
  ·rw [List.filter_cons_of_neg (by simpa using h)]
   by_cases h2:n≤y.length
   ·rw [List.filter_cons_of_pos (by simpa using h2),List.length_cons]
    omega
   ·rw [List.filter_cons_of_neg (by simpa using h2)]
    exact ih
theorem Fy {cs:List Str} {x:Str} (hx:x∈cs):vO cs (x.length+1) < vO cs x.length:=by
 induction cs with
 | nil=>cases hx
 | cons y cs ih =>
  have hle:=Er cs x.length
  unfold vO at *
  rcases List.mem_cons.mp hx with rfl | hx
  ·rw [List.filter_cons_of_neg (by simp),List.filter_cons_of_pos (by simp),List.length_cons]
   omega
  ·have ih:=ih hx
   by_cases h:x.length+1≤y.length
   ·rw [List.filter_cons_of_pos (by simpa using h),List.filter_cons_of_pos (by simpa using (show x.length≤y.length by omega))]
    simpa using ih
   ·rw [List.filter_cons_of_neg (by simpa using h)]
    by_cases h2:x.length≤y.length
    ·rw [List.filter_cons_of_pos (by simpa using h2),List.length_cons]
     omega
    ·rw [List.filter_cons_of_neg (by simpa using h2)]
     exact ih
abbrev SG:Str:="abcdefghijklmnopqrstuvwxyz0123456789"
theorem Jp:(Str.cps SG).toList.length=36:=by decide +kernel
theorem Jm:∀ c∈(Str.cps SG).toList,c < 128:=by decide +kernel
theorem Bf:Str.length SG≤1000:=by decide +kernel
structure Ce (H:Hp) (l:Addr) (cs:List Str):Prop where
 e:H l=some (.lst (cs.map V.str))
 n:cs.length=9
 a:∀ x∈cs,Asc 17 x
theorem Ce.old {b l:Addr} {H H':Hp} {cs:List Str} (h:Ce H l cs) (o:eX b H H') (hn:l≠b):Ce H' l cs:=⟨o _ _ h.e hn,h.n,h.a⟩
def CT:Sp:=fun vs H Q _=>∃ b:Addr,vs=[.ref b]∧cj b H∧∀ (l:Addr) (cs:List Str) (H':Hp),cj b H'→eX b H H'→l≠b→Ce H' l cs→Q (.ref l) H'
def Dg:Sp:=fun vs H Q _=>∃ (b l:Addr) (cs:List Str),vs=[.ref b,.ref l]∧cj b H∧l≠b∧Ce H l cs∧∀ (x:Str) (H':Hp),cj b H'→eX b H H'→Asc 1000 x→Q (.str x) H'
def xJ:Sp:=fun vs H Q _=>∃ (b l:Addr) (cs:List Str) (m:Nat),vs=[.ref b,.ref l,.int (m:Nat)]∧cj b H∧l≠b∧Ce H l cs∧m≤5∧∀ (q:Addr) (xs:List Str) (H':Hp),cj b H'→eX b H H'→H' q=some (.tup (xs.map V.str))→xs.length=m→(∀ x∈xs,Asc 1000 x)→Q (.ref q) H'
def yw:Sp:=fun vs H Q _=>∃ (b l1 l2:Addr) (c1 c2:List Str),vs=[.ref b,.ref l1,.ref l2]∧cj b H∧l1≠b∧l2≠b∧Ce H l1 c1∧Ce H l2 c2∧∀ (q:Addr) (us:List V) (ps:List (Str × Str)) (H':Hp),cj b H'→eX b H H'→H' q=some (.tup us)→us.length≤100→PrT H' us ps→Q (.ref q) H'
def uc:Sp:=fun vs H Q _=>∃ b:Addr,vs=[.ref b]∧cj b H∧∀ (q:Addr) (ns:List Int) (H':Hp),cj b H'→eX b H H'→H' q=some (.tup (ns.map V.int))→ns.length=5→(∀ x∈ns,0≤x∧x≤1000000)→Q (.ref q) H'
def listI (H:Hp) (b l:Addr) (k:Nat) (σ:L2.St) (H1:Hp):Prop:=∃ (v3:Option V) (cs:List Str),σ=[some (.ref b),some (.str SG),some (.ref l),v3]∧k+cs.length=9∧cj b H1∧eX b H H1∧H1 l=some (.lst (cs.map V.str))∧∀ x∈cs,Asc 17 x
theorem oR (cs:List Str):(cs.map V.str).all nZ=true:=by
 rw [List.all_eq_true]
 intro v hv
 obtain ⟨x,_,rfl⟩:=List.mem_map.mp hv
 rfl
theorem Hi {b l:Addr} {H:Hp} {o:HO} (h:cj b H) (hn:l≠b):cj b (upd H l o):=by
 obtain ⟨ns,s,e,r⟩:=h
 exact ⟨ns,s,(aM hn.symm).trans e,r⟩
section
variable {P:Program} {w:World} {K:PySem.W.Frag} {mg:Str→Option Value} {base:Heap}
theorem pP:aP ["_law_pot", "_law_signs", "_law_cores_here", "_law_core"] ["_law_pot"] (au oZ):=⟨rfl,rfl,rfl,by decide +kernel,rfl,by decide +kernel,by decide +kernel⟩
theorem Jj (h:Has K mg "_law_list" oZ ["_law_pot"]) (C_next:Cal P w K mg base "_law_next" 1 ["_law_pot", "_law_many"] jQ) (m_len:mg "len" = none) (m_range:mg "range" = none):Cal P w K mg base "_law_list" 2 ["_law_pot"] CT:=by
 refine h.mk' pP (fun vs H Q E hs=>?_) (fun f cdv A outer s H vs Q E hr hs=>?_)
 ·obtain ⟨b,rfl,_⟩:=hs
  rfl
 obtain ⟨b,rfl,hp,k⟩:=hs
 refine ⟨_,(aB (aW (i:=1) pP.nd rfl (Or.inr rfl) bL)
  (aB (aW (i:=2) pP.nd rfl (Or.inl rfl) (cU ao))
  (aB (oA PassesOwn.never (aY Ks (aG aQ rfl m_len PySem.boot_len (aj (pv 2) ao)) aA (bG _))
   (aB (aW (i:=3) pP.nd rfl (Or.inl rfl) (iw PySem.F.plainAttrs_str PySem.F.slot_str_join PySem.F.type_str_join yH bL (aj (aZ ["_law_pot", "_law_signs", "_law_cores_here", "_law_core"] (au oZ) ["_law_pot", "_law_signs", "_law_k"] [some 0,some 1,none] rfl rfl rfl (dH rfl m_range (aj (aX bI aA (aK C_next hr (by decide) rfl (aj (pv 0) (aj aA ao)))) ao)) rfl (by decide +kernel) (by decide +kernel) (by decide +kernel) (by decide +kernel) (hg:=fun cl C s H ex pn E=>(aD (i:=2) (by decide +kernel:(["_law_pot", "_law_signs", "_law_k"]:List Str).Nodup) rfl (Or.inl rfl))) (ht:=fun cl C s H ex pn E=>bh) (he:=fun cl C s H ex pn E=>(bA Jz (pv 1) (aK C_next hr (by decide) rfl (aj (pv 0) (aj aA ao))) (fun _ _=>rfl)))) ao)))
  (aB (oA PassesOwn.never (aY pC (pv 3) (pv 2) (by with_unfolding_all rfl))
   (aC (aW (i:=3) pP.nd rfl (Or.inl rfl) (aX eZ (pv 3) bL))))
  (aC (eN (iw PySem.F.plainAttrs_list PySem.F.slot_list_append PySem.F.type_list_append cH (pv 2) (aj (pv 3) ao)))))))
  (aC (aR (pv 2)))))),?_⟩
 refine gN ⟨smn 0,fun l hl=>?_⟩
 have nlb:l≠b:=hp.ne hl
 refine gN ⟨listI H b l,⟨9,_,[],rfl,rfl,hp.same (aq hl _),.of (aq hl _),ak,(fun x hx=>nomatch hx)⟩,?_⟩
 rintro kk σ H1 ⟨v3,cs,rfl,hk,p1,o1,e1,a1⟩
 refine ⟨_,rfl,l,_,rfl,.inl (SqL.of e1),_,_,rfl,rfl,_,rfl,?_⟩
 refine dR (fun z=>?_) (fun z=>?_)
 ·have hlt:cs.length < 9:=by
   have:=of_decide_eq_true z
   rw [List.length_map] at this
   omega
  refine ⟨fun σ' H'=>∃ m',m' < kk∧listI H b l m' σ' H',fun _ _ q=>q,?_⟩
  refine ⟨rfl,_,rfl,b,8,rfl,p1,by decide,by decide,fun r H2 p2 o2 r0 r1=>⟨_,_,rfl,rfl,_,rfl,by omega,by omega,fun lc hlc=>?_⟩⟩
  have ncb:lc≠b:=p2.ne hlc
  have el2:=o2 _ _ e1 nlb
  have ncl:lc≠l:=(aF el2 hlc).symm
  refine bF (J:=Itr 0 (1+r).toNat) (l:=lc) (1+r).toNat (fun i σ' H'=>∃ (ds:List Nat) (v:Option V),ds.length=i∧σ'=[some (.ref b),some (.str SG),v]∧H' lc=some (.lst (ds.map fun c=>V.str ⟨#[c]⟩))∧cj b H'∧eX b H H'∧H' l=some (.lst (cs.map V.str))∧∀ c∈ds,c < 128) ⟨[],none,rfl,rfl,ak,p2.same (aq hlc _),(o1.trans o2).trans (.of (aq hlc _)),(aq hlc _) _ _ el2,(fun c hc=>nomatch hc)⟩ ?_ ?_
  ·rintro σ' H3 ⟨ds,v,hds,rfl,hl3,p3,o3,el3,as3⟩
   refine ⟨Nat.le_refl _,_,lc,ds.map (fun c=>(⟨#[c]⟩:Str)),rfl,rfl,SqL.of (by rw [List.map_map]; exact hl3),qx (by decide +kernel) ds (by omega),?_⟩
   have ha:Asc 8 (Str.join "" (ds.map fun c=>(⟨#[c]⟩:Str))):=Asc.ones (by decide +kernel) (by omega) as3
   generalize Str.join "" (ds.map fun c=>(⟨#[c]⟩:Str))=x at ha
   have hns:vO cs x.length≤cs.length:=List.length_filter_le _ _
   refine gN ⟨fun m σ' H'=>∃ y:Str,σ'=[some (.ref b),some (.str SG),some (.ref l),some (.str y)]∧H'=H3∧m=vO cs y.length∧y.length+m≤17∧∀ c∈y.cps.toList,c < 128,⟨vO cs x.length,x,rfl,rfl,rfl,by have:=ha.l; omega,ha.c⟩,?_⟩
   rintro m σ' H4 ⟨y,rfl,rfl,hm,hym,hyc⟩
   refine ⟨_,rfl,_,rfl,l,_,rfl,.inl (SqL.of el3),rfl,oR cs,_,rfl,?_⟩
   rw [show (if false=true then !inV (V.str y) (cs.map V.str) else inV (V.str y) (cs.map V.str))=inV (V.str y) (cs.map V.str) from rfl,rA]
   refine dR (fun z2=>?_) (fun z2=>?_)
   ·have hyin:=of_decide_eq_true z2
    have hlt2:=Fy hyin
    have eq1:(y++("q" : Str)).length=y.length+1:=by
     show (y.cps++Str.cps "q").size=y.cps.size+1
     rw [Array.size_append]
     rfl
    refine ⟨fun σ' H'=>∃ m',m' < m∧∃ y:Str,σ'=[some (.ref b),some (.str SG),some (.ref l),some (.str y)]∧H'=H4∧m'=vO cs y.length∧y.length+m'≤17∧∀ c∈y.cps.toList,c < 128,fun _ _ q=>q,?_⟩
    refine ⟨_,rfl,_,_,rfl,rfl,small (by show y.length+1≤1000; omega),?_⟩
    refine ⟨vO cs (y.length+1),by omega,y++("q" : Str),rfl,rfl,by rw [eq1],by rw [eq1]; omega,fun c hc=>?_⟩
    have hc':c∈(y.cps++Str.cps "q").toList:=hc
    rw [Array.toList_append,List.mem_append] at hc'
    rcases hc' with h | h
    ·exact hyc c h
    ·exact (by decide +kernel:∀ c∈(Str.cps "q").toList,c < 128) c h
   ·refine ⟨_,rfl,.inl ⟨rfl,_,SqL.of el3⟩,_,rfl,l,_,_,rfl,rfl,el3,aH (by rw [List.length_map]; omega),?_⟩
    refine ⟨kk - 1,by omega,_,cs++[y],rfl,by rw [List.length_append,List.length_singleton]; omega,Hi p3 nlb,fun c o z3 h=>?_,?_,fun w hw=>?_⟩
    ·rw [aM (aF z3 hl)]
     exact o3 c o z3 h
    ·rw [ak,List.map_append]
     rfl
    ·rcases List.mem_append.mp hw with hw | hw
     ·exact a1 w hw
     ·rw [List.mem_singleton.mp hw]
      exact ⟨by omega,hyc⟩
  ·rintro i σ' H3 hi ⟨ds,v,hds,rfl,hl3,p3,o3,el3,as3⟩
   refine ⟨hi,?_⟩
   rintro x H4 ⟨rfl,rfl⟩
   refine gN (jy (gB ?_))
   refine ⟨_,rfl,_,rfl,b,36,rfl,p3,by decide,by decide,fun r5 H5 p5 o5 r50 r51=>?_⟩
   obtain ⟨c,hc,hcm⟩:=yL (xs:=(Str.cps SG).toList) r50 (by rw [Jp]; exact r51)
   have hlcH:H lc=none:=(o1.trans o2).none p2 hlc
   refine ⟨_,r5,c,rfl,rfl,small Bf,hc,ds.map (fun c=>V.str ⟨#[c]⟩),o5 _ _ hl3 ncb,aH (by rw [List.length_map]; omega),ds++[c],_,by rw [List.length_append,hds]; rfl,rfl,?_,Hi p5 ncb,fun c' o z h=>?_,(aM ncl.symm).trans (o5 _ _ el3 nlb),fun e he=>?_⟩
   ·rw [ak,List.map_append]
    rfl
   ·rw [aM (aF z hlcH)]
    exact o5 _ _ (o3 c' o z h) h
   ·rcases List.mem_append.mp he with he | he
    ·exact as3 e he
    ·rw [List.mem_singleton.mp he]
     exact Jm c hcm
 ·have h9:cs.length=9:=by
   have:¬ ((cs.map V.str).length:Int) < 9:=fun q=>z (decide_eq_true q)
   rw [List.length_map] at this
   omega
  exact ⟨_,rfl,k l cs H1 p1 o1 nlb ⟨e1,h9,a1⟩⟩
theorem jX:aP ["_law_pot", "_law_cores_here", "_law_text_here", "_law_k", "_law_word", "_law_way"] ["_law_pot", "_law_cores_here"] (au qO):=⟨rfl,rfl,rfl,by decide +kernel,rfl,by decide +kernel,by decide +kernel⟩
theorem Ju (h:Has K mg "_law_text" qO ["_law_pot", "_law_cores_here"]) (C_next:Cal P w K mg base "_law_next" 1 ["_law_pot", "_law_many"] jQ) (m_range:mg "range" = none):Cal P w K mg base "_law_text" 2 ["_law_pot", "_law_cores_here"] Dg:=by
 refine h.mk' jX (fun vs H Q E hs=>?_) (fun f cdv A outer s H vs Q E hr hs=>?_)
 ·obtain ⟨b,l,cs,rfl,_⟩:=hs
  rfl
 obtain ⟨b,l,cs,rfl,hp,nlb,h9,k⟩:=hs
 refine ⟨_,(aB (aW (i:=2) jX.nd rfl (Or.inl rfl) (bA bR (cU (aj bL (aj bL (aj bL (aj bL ao))))) (aK C_next hr (by decide) rfl (aj (pv 0) (aj aA ao))) (fun _ _=>rfl)))
  (aB (cW PassesOwn.never rfl (dH rfl m_range (aj (aK C_next hr (by decide) rfl (aj (pv 0) (aj (bA bR (cU (aj aA (aj aA (aj aA (aj aA (aj aA (aj aA (aj aA (aj aA ao))))))))) (aK C_next hr (by decide) rfl (aj (pv 0) (aj aA ao))) (fun _ _=>rfl)) ao))) ao)) (aD (i:=3) jX.nd rfl (Or.inl rfl))
   (aB (aW (i:=4) jX.nd rfl (Or.inl rfl) (bA bR (pv 1) (aK C_next hr (by decide) rfl (aj (pv 0) (aj aA ao))) (fun _ _=>rfl)))
  (aB (aW (i:=5) jX.nd rfl (Or.inl rfl) (aK C_next hr (by decide) rfl (aj (pv 0) (aj aA ao))))
  (aB (dW (aY gG (pv 5) aA (bG _))
   (aC (aW (i:=4) jX.nd rfl (Or.inl rfl) (qC PySem.F.plainAttrs_str PySem.F.slot_str_upper PySem.F.type_str_upper tD (pv 4))))
   bK)
  (aB (dW (aY gG (pv 5) aA (bG _))
   (aC (aW (i:=4) jX.nd rfl (Or.inl rfl) (aX eZ (qC PySem.F.plainAttrs_str PySem.F.slot_str_upper PySem.F.type_str_upper tD (eV CW (pv 4) fY (gq aA))) (eV CW (pv 4) (gq aA) fY))))
   bK)
  (aC (aW (i:=2) jX.nd rfl (Or.inl rfl) (aX eZ (aX eZ (pv 2) (pv 4)) (bA bR (cU (aj bL (aj bL (aj bL (aj bL (aj bL (aj bL (aj bL (aj bL ao))))))))) (aK C_next hr (by decide) rfl (aj (pv 0) (aj aA ao))) (fun _ _=>rfl))))))))))
  (aC (aR (pv 2))))),?_⟩
 refine ⟨smn 4,fun l1 hl1=>?_⟩
 have n1b:l1≠b:=hp.ne hl1
 have s1:=aq hl1 (.lst ((["", " ", "(", "\n"]:List Str).map V.str))
 have e1:(upd H l1 (.lst ((["", " ", "(", "\n"]:List Str).map V.str))) l1=some (.lst ((["", " ", "(", "\n"]:List Str).map V.str)):=ak
 have p1:=hp.same s1
 refine ⟨_,rfl,b,4,rfl,p1,by decide,by decide,fun r2 H2 p2 o2 r20 r21=>?_⟩
 obtain ⟨x0,hx0,hat0⟩:=jd (L:=["", " ", "(", "\n"]) r20 r21
 have ax0:Asc 1 x0:=(by
  have:∀ x∈(["", " ", "(", "\n"]:List Str),x.length≤1∧∀ c∈x.cps.toList,c < 128:=by decide +kernel
  exact ⟨(this x0 hx0).1,(this x0 hx0).2⟩)
 refine ⟨l1,_,_,_,rfl,rfl,SqL.of (o2 _ _ e1 n1b),hat0,?_⟩
 have o02:eX b H H2:=(eX.of s1).trans o2
 refine gN ⟨_,rfl,smn 8,fun l3 hl3=>?_⟩
 have n3b:l3≠b:=p2.ne hl3
 have s3:=aq hl3 (.lst (([4,5,5,5,5,5,9,21]:List Int).map V.int))
 have e3:(upd H2 l3 (.lst (([4,5,5,5,5,5,9,21]:List Int).map V.int))) l3=some (.lst (([4,5,5,5,5,5,9,21]:List Int).map V.int)):=ak
 refine ⟨_,rfl,b,8,rfl,p2.same s3,by decide,by decide,fun r4 H4 p4 o4 r40 r41=>?_⟩
 obtain ⟨m,hm,hatm⟩:=mX (L:=[4,5,5,5,5,5,9,21]) r40 r41
 have hmb:0 < m∧m≤21:=(by decide:∀ m∈([4,5,5,5,5,5,9,21]:List Int),0 < m∧m≤21) m hm
 refine ⟨l3,_,_,_,rfl,rfl,SqL.of (o4 _ _ e3 n3b),hatm,b,m,rfl,p4,by omega,by omega,fun r5 H5 p5 o5 r50 r51=>⟨_,rfl,by omega,by omega,?_⟩⟩
 have o05:eX b H H5:=((o02.trans (.of s3)).trans o4).trans o5
 refine gZ (lo:=0) (n:=r5.toNat) (fun i σ H6=>∃ (v3 v4 v5:Option V) (x:Str),σ=[some (.ref b),some (.ref l),some (.str x),v3,v4,v5]∧cj b H6∧eX b H H6∧Asc (1+36 * i) x) ⟨_,_,_,x0,rfl,p5,o05,ax0⟩ ?_ ?_
 ·rintro i σ H6 hi ⟨v3,v4,v5,x,rfl,p6,o6,ax⟩
  have hi20:i < 21:=by omega
  have N6:=h9.old o6 nlb
  refine gN ⟨_,rfl,_,rfl,b,9,rfl,p6,by decide,by decide,fun r7 H7 p7 o7 r70 r71=>?_⟩
  have N7:=N6.old o7 nlb
  obtain ⟨wd,hwd,hatw⟩:=jd (L:=cs) r70 (by rw [h9.n]; exact r71)
  have aw:=h9.a wd hwd
  refine ⟨l,_,_,_,rfl,rfl,SqL.of N7.e,hatw,?_⟩
  refine gN ⟨_,rfl,b,4,rfl,p7,by decide,by decide,fun r8 H8 p8 o8 r80 r81=>?_⟩
  have o08:=(o6.trans o7).trans o8
  refine gN ⟨_,rfl,rfl,_,rfl,dR (fun _=>⟨_,rfl,rfl,wd.cps.toList,congrArg V.str (n6 wd),rfl,aw.c,by rw [vG]; have:=aw.l; omega,gN ⟨_,rfl,rfl,_,rfl,dR (fun _=>?tt) (fun _=>?tf)⟩⟩) (fun _=>⟨_,rfl,rfl,_,rfl,dR (fun _=>?ft) (fun _=>?ff)⟩)⟩
  case' tt =>
   have ay:=aw.up
   refine ⟨_,rfl,_,rfl,_,rfl,small (by have:=ay.l; omega),rfl,_,congrArg V.str (n6 _),rfl,(ay.slice none (some 1)).c,by rw [vG]; have:=(ay.slice none (some 1)).l; omega,_,rfl,_,rfl,_,rfl,small (by have:=ay.l; omega),_,_,rfl,rfl,small (by have:=(ay.slice none (some 1)).up.l; have:=(ay.slice (some 1) none).l; omega),?_⟩
   have az:=(ay.slice none (some 1)).up.app (ay.slice (some 1) none)
   refine gN ?_
  case' ft =>
   have ay:=aw
   refine ⟨_,rfl,_,rfl,_,rfl,small (by have:=ay.l; omega),rfl,_,congrArg V.str (n6 _),rfl,(ay.slice none (some 1)).c,by rw [vG]; have:=(ay.slice none (some 1)).l; omega,_,rfl,_,rfl,_,rfl,small (by have:=ay.l; omega),_,_,rfl,rfl,small (by have:=(ay.slice none (some 1)).up.l; have:=(ay.slice (some 1) none).l; omega),?_⟩
   have az:=(ay.slice none (some 1)).up.app (ay.slice (some 1) none)
   refine gN ?_
  case' tf=>have az:=aw.up.mono (m:=34) (by omega)
  case' ff=>have az:=aw.mono (m:=34) (by omega)
  all_goals
   have lx:=ax.l
   have ly:=az.l
   have axy:=ax.app az
   refine ⟨_,rfl,_,rfl,x,_,rfl,rfl,small (by omega),smn 8,fun l9 hl9=>?_⟩
   have n9b:l9≠b:=p8.ne hl9
   have s9:=aq hl9 (.lst (([" ", ", ", "-", "\n", ". ", " ", "_", ""]:List Str).map V.str))
   have e9:(upd H8 l9 (.lst (([" ", ", ", "-", "\n", ". ", " ", "_", ""]:List Str).map V.str))) l9=some (.lst (([" ", ", ", "-", "\n", ". ", " ", "_", ""]:List Str).map V.str)):=ak
   refine ⟨_,rfl,b,8,rfl,p8.same s9,by decide,by decide,fun ra Ha pa oa ra0 ra1=>?_⟩
   obtain ⟨se,hse,hats⟩:=jd (L:=[" ", ", ", "-", "\n", ". ", " ", "_", ""]) ra0 ra1
   have as:Asc 2 se:=(by
    have:∀ x∈([" ", ", ", "-", "\n", ". ", " ", "_", ""]:List Str),x.length≤2∧∀ c∈x.cps.toList,c < 128:=by decide +kernel
    exact ⟨(this se hse).1,(this se hse).2⟩)
   have l3:=axy.l
   have l4:=as.l
   refine ⟨l9,_,_,_,rfl,rfl,SqL.of (oa _ _ e9 n9b),hats,_,_,rfl,rfl,small (by omega),?_⟩
   exact ⟨_,_,_,_,rfl,pa,(o08.trans (.of s9)).trans oa,(axy.app as).mono (by omega)⟩
 ·rintro σ H6 ⟨v3,v4,v5,x,rfl,p6,o6,ax⟩
  exact ⟨_,rfl,k x H6 p6 o6 (ax.mono (by omega))⟩
end
theorem PrT.keepT {H H':Hp} {us:List V} {ps:List (Str × Str)} (h:PrT H us ps) (e:∀ (b:Addr) (vs:List V),H b=some (.tup vs)→H' b=some (.tup vs)):PrT H' us ps:=⟨h.1,fun i u p a b=>by
 obtain ⟨q,e1,e2⟩:=h.2 i u p a b
 exact ⟨q,e1,e _ _ e2⟩⟩
theorem PrT.snoc {H:Hp} {us:List V} {ps:List (Str × Str)} {t:Addr} {p:Str × Str} (h:PrT H us ps) (ht:H t=some (.tup [.str p.1,.str p.2])):PrT H (us++[.ref t]) (ps++[p]):=by
 refine ⟨by rw [List.length_append,List.length_append,h.1]; rfl,fun i u q hu hq=>?_⟩
 by_cases hi:i < us.length
 ·rw [List.getElem?_append_left hi] at hu
  rw [List.getElem?_append_left (by rw [← h.1]; exact hi)] at hq
  exact h.2 i u q hu hq
 ·have hi2:i=us.length:=by
   have:=(List.getElem?_eq_some_iff.mp hu).1
   rw [List.length_append,List.length_singleton] at this
   omega
  subst hi2
  rw [List.getElem?_append_right (Nat.le_refl _),Nat.sub_self] at hu
  rw [h.1,List.getElem?_append_right (Nat.le_refl _),Nat.sub_self] at hq
  have e1:u=.ref t:=(Option.some.inj hu).symm
  have e2:q=p:=(Option.some.inj hq).symm
  subst e2
  exact ⟨t,e1,ht⟩
theorem iu {H:Hp} {l:Addr} {us ws:List V} (e:H l=some (.lst us)):∀ (b:Addr) (vs:List V),H b=some (.tup vs)→(upd H l (.lst ws)) b=some (.tup vs):=fun b vs z=>by
 rw [aM]
 ·exact z
 ·intro q
  rw [q,e] at z
  cases z
section
variable {P:Program} {w:World} {K:PySem.W.Frag} {mg:Str→Option Value} {base:Heap}
theorem Gj:aP ["_law_pot", "_law_cores_here", "_law_many"] ["_law_pot", "_law_cores_here", "_law_many"] (au jL):=⟨rfl,rfl,rfl,by decide +kernel,rfl,by decide +kernel,by decide +kernel⟩
theorem GJ (h:Has K mg "_law_texts" jL ["_law_pot", "_law_cores_here", "_law_many"]) (C_text:Cal P w K mg base "_law_text" 2 ["_law_pot", "_law_cores_here"] Dg) (m_tuple:mg "tuple" = none) (m_range:mg "range" = none):Cal P w K mg base "_law_texts" 3 ["_law_pot", "_law_cores_here", "_law_many"] xJ:=by
 refine h.mk' Gj (fun vs H Q E hs=>?_) (fun f cdv A outer s H vs Q E hr hs=>?_)
 ·obtain ⟨b,l,cs,m,rfl,_⟩:=hs
  rfl
 obtain ⟨b,l,cs,m,rfl,hp,nlb,h9,hm,k⟩:=hs
 refine ⟨_,(aC (aR (bV bM rfl m_tuple boot_tuple (aj (aZ ["_law_pot", "_law_cores_here", "_law_many"] (au jL) ["_law_pot", "_law_cores_here", "_law_k"] [some 0,some 1,none] rfl rfl rfl (dH rfl m_range (aj (pv 2) ao)) rfl (by decide +kernel) (by decide +kernel) (by decide +kernel) (by decide +kernel) (hg:=fun cl C s H ex pn E=>(aD (i:=2) (by decide +kernel:(["_law_pot", "_law_cores_here", "_law_k"]:List Str).Nodup) rfl (Or.inl rfl))) (ht:=fun cl C s H ex pn E=>bh) (he:=fun cl C s H ex pn E=>(aK C_text hr (by decide) rfl (aj (pv 0) (aj (pv 1) ao))))) ao)))),?_⟩
 refine ⟨_,rfl,_,rfl,by omega,by omega,fun lc hlc=>?_⟩
 have ncb:lc≠b:=hp.ne hlc
 refine bF (J:=Itr 0 m) (l:=lc) m (fun i σ' H'=>∃ (v:Option V) (xs:List Str),σ'=[some (.ref b),some (.ref l),v]∧cj b H'∧eX b H H'∧H' lc=some (.lst (xs.map V.str))∧xs.length=i∧∀ x∈xs,Asc 1000 x) ⟨none,[],rfl,hp.same (aq hlc _),.of (aq hlc _),ak,rfl,(fun x hx=>nomatch hx)⟩ ?_ ?_
 ·rintro σ' H1 ⟨v,xs,rfl,p1,o1,e1,hn,ha⟩
  exact ⟨Nat.le_refl _,lc,_,rfl,.inl ⟨SqL.of e1,fun r hr=>k r xs _ (p1.same (aq hr _)) (o1.trans (.of (aq hr _))) ak hn ha⟩⟩
 ·rintro i σ' H1 hi ⟨v,xs,rfl,p1,o1,e1,hn,ha⟩
  refine ⟨hi,?_⟩
  rintro x H2 ⟨rfl,rfl⟩
  refine gN (jy (gB ⟨_,rfl,_,rfl,b,l,cs,rfl,p1,nlb,h9.old o1 nlb,fun y H3 p3 o3 ay=>?_⟩))
  refine ⟨_,o3 _ _ e1 ncb,aH (by rw [List.length_map]; omega),_,xs++[y],rfl,Hi p3 ncb,fun c o z h=>?_,?_,by rw [List.length_append,hn]; rfl,fun z hz=>?_⟩
  ·rw [aM (aF z hlc)]
   exact o3 _ _ (o1 c o z h) h
  ·rw [ak,List.map_append]
   rfl
  ·rcases List.mem_append.mp hz with hz | hz
   ·exact ha z hz
   ·rw [List.mem_singleton.mp hz]
    exact ay
theorem ou:aP ["_law_pot", "_law_lefts", "_law_rights", "_law_known_here", "_law_k", "_law_pair"] ["_law_pot", "_law_lefts", "_law_rights"] (au lu):=⟨rfl,rfl,rfl,by decide +kernel,rfl,by decide +kernel,by decide +kernel⟩
theorem Em (h:Has K mg "_law_known" lu ["_law_pot", "_law_lefts", "_law_rights"]) (C_next:Cal P w K mg base "_law_next" 1 ["_law_pot", "_law_many"] jQ) (m_range:mg "range" = none) (m_tuple:mg "tuple" = none):Cal P w K mg base "_law_known" 2 ["_law_pot", "_law_lefts", "_law_rights"] yw:=by
 refine h.mk' ou (fun vs H Q E hs=>?_) (fun f cdv A outer s H vs Q E hr hs=>?_)
 ·obtain ⟨b,l1,l2,c1,c2,rfl,_⟩:=hs
  rfl
 obtain ⟨b,l1,l2,c1,c2,rfl,hp,n1b,n2b,h1,h2,k⟩:=hs
 refine ⟨_,(aB (aW (i:=3) ou.nd rfl (Or.inl rfl) (cU ao))
  (aB (cW PassesOwn.never rfl (dH rfl m_range (aj (aK C_next hr (by decide) rfl (aj (pv 0) (aj (bA bR (cU (aj aA (aj aA (aj aA ao)))) (aK C_next hr (by decide) rfl (aj (pv 0) (aj aA ao))) (fun _ _=>rfl)) ao))) ao)) (aD (i:=4) ou.nd rfl (Or.inl rfl))
   (aB (aW (i:=5) ou.nd rfl (Or.inl rfl) (bD (aj (bA bR (pv 1) (aK C_next hr (by decide) rfl (aj (pv 0) (aj aA ao))) (fun _ _=>rfl)) (aj (bA bR (pv 2) (aK C_next hr (by decide) rfl (aj (pv 0) (aj aA ao))) (fun _ _=>rfl)) ao))))
  (aC (dW (aY (vU (zK hr)) (pv 5) (pv 3) (by with_unfolding_all rfl))
   (aC (eN (iw PySem.F.plainAttrs_list PySem.F.slot_list_append PySem.F.type_list_append cH (pv 3) (aj (pv 5) ao))))
   bK))))
  (aC (aR (bV bM rfl m_tuple boot_tuple (aj (pv 3) ao)))))),?_⟩
 refine ⟨smn 0,fun lk hlk=>?_⟩
 have nkb:lk≠b:=hp.ne hlk
 have s0:=aq hlk (.lst [])
 have e0:(upd H lk (.lst [])) lk=some (.lst []):=ak
 have p0:=hp.same s0
 generalize upd H lk (.lst [])=H0 at s0 e0 p0
 refine gN ⟨_,rfl,smn 3,fun l3 hl3=>?_⟩
 have n3b:l3≠b:=p0.ne hl3
 have s3:=aq hl3 (.lst (([3,5,13]:List Int).map V.int))
 have e3:(upd H0 l3 (.lst (([3,5,13]:List Int).map V.int))) l3=some (.lst (([3,5,13]:List Int).map V.int)):=ak
 refine ⟨_,rfl,b,3,rfl,p0.same s3,by decide,by decide,fun r4 H4 p4 o4 r40 r41=>?_⟩
 obtain ⟨m,hm,hatm⟩:=mX (L:=[3,5,13]) r40 r41
 have hmb:0 < m∧m≤13:=(by decide:∀ m∈([3,5,13]:List Int),0 < m∧m≤13) m hm
 refine ⟨l3,_,_,_,rfl,rfl,SqL.of (o4 _ _ e3 n3b),hatm,b,m,rfl,p4,by omega,by omega,fun r5 H5 p5 o5 r50 r51=>⟨_,rfl,by omega,by omega,?_⟩⟩
 have o05:eX b H H5:=(((eX.of s0).trans (.of s3)).trans o4).trans o5
 have e5:H5 lk=some (.lst []):=o5 _ _ (o4 _ _ (s3 _ _ e0) nkb) nkb
 refine gZ (lo:=0) (n:=r5.toNat) (fun i σ H6=>∃ (v4 v5:Option V) (us:List V) (ps:List (Str × Str)),σ=[some (.ref b),some (.ref l1),some (.ref l2),some (.ref lk),v4,v5]∧cj b H6∧eX b H H6∧H6 lk=some (.lst us)∧PrT H6 us ps∧us.length≤i) ⟨_,_,[],[],rfl,p5,o05,e5,⟨rfl,fun i u p h=>by simp at h⟩,Nat.le_refl _⟩ ?_ ?_
 ·rintro i σ H6 hi ⟨v4,v5,us,ps,rfl,p6,o6,e6,P6,hul⟩
  refine gN ⟨_,rfl,_,rfl,b,9,rfl,p6,by decide,by decide,fun r7 H7 p7 o7 r70 r71=>?_⟩
  obtain ⟨x,hx,hatx⟩:=jd (L:=c1) r70 (by rw [h1.n]; exact r71)
  have N1:=(h1.old o6 n1b).old o7 n1b
  refine ⟨l1,_,_,_,rfl,rfl,SqL.of N1.e,hatx,_,rfl,_,rfl,b,9,rfl,p7,by decide,by decide,fun r8 H8 p8 o8 r80 r81=>?_⟩
  obtain ⟨y,hy,haty⟩:=jd (L:=c2) r80 (by rw [h2.n]; exact r81)
  have N2:=((h2.old o6 n2b).old o7 n2b).old o8 n2b
  refine ⟨l2,_,_,_,rfl,rfl,SqL.of N2.e,haty,smn 2,fun tp htp=>?_⟩
  have s9:=aq htp (.tup [.str x,.str y])
  have e9:(upd H8 tp (.tup [.str x,.str y])) tp=some (.tup [.str x,.str y]):=ak
  have ek:=s9 _ _ (o8 _ _ (o7 _ _ e6 nkb) nkb)
  have P9:=((P6.keepT (o7.tup p6)).keepT (o8.tup p7)).same s9
  have p9:=p8.same s9
  have o9:eX b H _:=((o6.trans o7).trans o8).trans (.of s9)
  generalize upd H8 tp (.tup [.str x,.str y])=H9 at s9 e9 ek P9 p9 o9
  refine gN ⟨_,rfl,_,rfl,tp,lk,us,ps,(x,y),rfl,rfl,ek,e9,P9.1,P9.2,_,rfl,?_⟩
  refine dR (fun _=>?_) (fun _=>?_)
  ·refine ⟨_,rfl,.inl ⟨rfl,_,SqL.of ek⟩,_,rfl,lk,_,_,rfl,rfl,ek,aH (by omega),?_⟩
   refine ⟨_,_,us++[.ref tp],ps++[(x,y)],rfl,Hi p9 nkb,fun c o z h=>?_,ak,(P9.keepT (iu ek)).snoc (iu ek _ _ e9),by rw [List.length_append,List.length_singleton]; omega⟩
   rw [aM (aF z hlk)]
   exact o9 c o z h
  ·exact ⟨_,_,us,ps,rfl,p9,o9,ek,P9,by omega⟩
 ·rintro σ H6 ⟨v4,v5,us,ps,rfl,p6,o6,e6,P6,hul⟩
  exact ⟨_,rfl,lk,_,rfl,.inl ⟨SqL.of e6,fun r hr=>k r us ps _ (p6.same (aq hr _)) (o6.trans (.of (aq hr _))) ak (by omega) (P6.same (aq hr _))⟩⟩
theorem BX:aP ["_law_pot"] ["_law_pot"] (au gU):=⟨rfl,rfl,rfl,by decide +kernel,rfl,by decide +kernel,by decide +kernel⟩
theorem Ca (h:Has K mg "_law_prices" gU ["_law_pot"]) (C_next:Cal P w K mg base "_law_next" 1 ["_law_pot", "_law_many"] jQ) (m_tuple:mg "tuple" = none) (m_range:mg "range" = none):Cal P w K mg base "_law_prices" 2 ["_law_pot"] uc:=by
 refine h.mk' BX (fun vs H Q E hs=>?_) (fun f cdv A outer s H vs Q E hr hs=>?_)
 ·obtain ⟨b,rfl,_⟩:=hs
  rfl
 obtain ⟨b,rfl,hp,k⟩:=hs
 refine ⟨_,(aC (aR (bV bM rfl m_tuple boot_tuple (aj (aZ ["_law_pot"] (au gU) ["_law_pot", "_law_k"] [some 0,none] rfl rfl rfl (dH rfl m_range (aj aA ao)) rfl (by decide +kernel) (by decide +kernel) (by decide +kernel) (by decide +kernel) (hg:=fun cl C s H ex pn E=>(aD (i:=1) (by decide +kernel:(["_law_pot", "_law_k"]:List Str).Nodup) rfl (Or.inl rfl))) (ht:=fun cl C s H ex pn E=>bh) (he:=fun cl C s H ex pn E=>(aK C_next hr (by decide) rfl (aj (pv 0) (aj (bA (dG (K:=K) rfl) (cU (aj aA (aj aA (aj aA (aj aA (aj aA (aj aA ao))))))) (aK C_next hr (by decide) rfl (aj (pv 0) (aj aA ao))) (fun _ _=>rfl)) ao))))) ao)))),?_⟩
 refine ⟨_,rfl,by omega,by omega,fun lc hlc=>?_⟩
 have ncb:lc≠b:=hp.ne hlc
 refine bF (J:=Itr 0 5) (l:=lc) 5 (fun i σ' H'=>∃ (v:Option V) (ns:List Int),σ'=[some (.ref b),v]∧cj b H'∧eX b H H'∧H' lc=some (.lst (ns.map V.int))∧ns.length=i∧∀ x∈ns,0≤x∧x≤1000000) ⟨none,[],rfl,hp.same (aq hlc _),.of (aq hlc _),ak,rfl,fun x hx=>nomatch hx⟩ ?_ ?_
 ·rintro σ' H1 ⟨v,ns,rfl,p1,o1,e1,hn,hb5⟩
  exact ⟨Nat.le_refl _,lc,_,rfl,.inl ⟨SqL.of e1,fun r hr=>k r ns _ (p1.same (aq hr _)) (o1.trans (.of (aq hr _))) ak hn hb5⟩⟩
 ·rintro i σ' H1 hi ⟨v,ns,rfl,p1,o1,e1,hn,hb5⟩
  refine ⟨hi,?_⟩
  rintro x H2 ⟨rfl,rfl⟩
  refine gN (jy (gB ⟨_,rfl,smn 6,fun l3 hl3=>?_⟩))
  have n3b:l3≠b:=p1.ne hl3
  have s3:=aq hl3 (.lst (([1,2,4,12,40,1000001]:List Int).map V.int))
  have e3:(upd H2 l3 (.lst (([1,2,4,12,40,1000001]:List Int).map V.int))) l3=some (.lst (([1,2,4,12,40,1000001]:List Int).map V.int)):=ak
  refine ⟨_,rfl,b,6,rfl,p1.same s3,by decide,by decide,fun r4 H4 p4 o4 r40 r41=>?_⟩
  obtain ⟨m,hm,hatm⟩:=mX (L:=[1,2,4,12,40,1000001]) r40 r41
  have hmb:0 < m∧m≤1000001:=(by decide:∀ m∈([1,2,4,12,40,1000001]:List Int),0 < m∧m≤1000001) m hm
  refine ⟨l3,_,_,_,rfl,rfl,SqL.of (o4 _ _ e3 n3b),hatm,b,m,rfl,p4,by omega,by omega,fun r5 H5 p5 o5 r50 r51=>?_⟩
  refine ⟨_,o5 _ _ (o4 _ _ (s3 _ _ e1) ncb) ncb,aH (by rw [List.length_map]; omega),_,ns++[r5],rfl,Hi p5 ncb,fun c o z h=>?_,?_,by rw [List.length_append,hn]; rfl,fun x hx=>?_⟩
  ·rw [aM (aF z hlc)]
   exact o5 _ _ (o4 _ _ (s3 _ _ (o1 c o z h)) h) h
  ·rw [ak,List.map_append]
   rfl
  ·rcases List.mem_append.mp hx with hx | hx
   ·exact hb5 x hx
   ·rw [List.mem_singleton.mp hx]
    omega
end
open M01 in
theorem xV:∀ d:Nat,d < 128→isW (lo1 d)=isW d∧(!(Builtin.Str.occurrences SG ⟨#[lo1 d]⟩ 0 (Str.length SG) 1).isEmpty)=isW d:=by decide +kernel
theorem vW:M01.isW 32=false∧(!(Builtin.Str.occurrences SG ⟨#[32]⟩ 0 (Str.length SG) 1).isEmpty)=false:=by decide +kernel
theorem K4:∀ c:Nat,c < 128→(!(!(Builtin.Str.occurrences (" \n" : Str) ⟨#[c]⟩ 0 (Str.length (" \n" : Str)) 1).isEmpty))=!decide (c=32∨c=10):=by decide +kernel
abbrev mkS (r:List Nat):Str:=⟨r.toArray⟩
theorem Bx (t:List Nat) (c:Nat):mkS t++(⟨#[c]⟩:Str)=mkS (t++[c]):=by
 show Str.mk (t.toArray ++ #[c])=_
 simp
theorem yx {t:List Nat}:V.str (mkS t)=V.str ""↔t=[]:=by
 constructor
 ·intro h
  injection h with h
  have:(mkS t).cps=(Str.cps ""):=congrArg Str.cps h
  have e:(Str.cps "") = #[]:=by decide +kernel
  rw [e] at this
  simpa using this
 ·intro h
  subst h
  have:mkS []=("" : Str):=by decide +kernel
  rw [this]
open M01 in
theorem Gx {st:S} {c:Nat} (h:c < 128):stp (st.1.map (List.map lo1),st.2.map lo1) (lo1 c)=((stp st c).1.map (List.map lo1),(stp st c).2.map lo1):=by
 unfold stp
 rw [(xV c h).1]
 by_cases hw:isW c=true
 ·rw [if_pos hw,if_pos hw]
  simp
 ·rw [if_neg hw,if_neg hw]
  by_cases he:st.2=[]
  ·rw [if_pos he,if_pos (by rw [he]; rfl)]
  ·rw [if_neg he,if_neg (by simpa using he)]
   simp
open M01 in
theorem xG:∀ (t:List Nat) (st:S),(∀ c∈t,c < 128)→(t.map lo1).foldl stp (st.1.map (List.map lo1),st.2.map lo1)=((t.foldl stp st).1.map (List.map lo1),(t.foldl stp st).2.map lo1)
 | [],st,_=>rfl
 | c :: t,st,h=>by
  rw [List.map_cons,List.foldl_cons,List.foldl_cons,Gx (h c List.mem_cons_self)]
  exact xG t (stp st c) fun d hd=>h d (List.mem_cons_of_mem _ hd)
open M01 in
theorem vK {x:Str} (h:∀ c∈x.cps.toList,c < 128):((scn (x.cps.toList.map lo1++[32])).1.map mkS)=aV [x]:=by
 have e:=xG x.cps.toList ([],[]) h
 have e2:scn (x.cps.toList.map lo1)=((scn x.cps.toList).1.map (List.map lo1),(scn x.cps.toList).2.map lo1):=e
 rw [uE,e2]
 unfold aV
 rw [List.flatMap_singleton]
 unfold wds fn stp
 rw [if_neg (by rw [vW.1]; decide)]
 generalize scn x.cps.toList=st
 by_cases he:st.2=[]
 ·rw [if_pos (show st.2.map lo1=[] by rw [he]; rfl),if_pos he]
  rw [List.map_map]
  rfl
 ·rw [if_neg (show ¬ st.2.map lo1=[] by simpa using he),if_neg he]
  simp only [List.map_append,List.map_map,List.map_cons,List.map_nil]
  rfl
open M01 in
theorem yS:∀ (t:List Nat) (st:S),(t.foldl stp st).1.length≤st.1.length+t.length∧(t.foldl stp st).2.length≤st.2.length+t.length
 | [],st=>⟨Nat.le_refl _,Nat.le_refl _⟩
 | c :: t,st=>by
  have ih:=yS t (stp st c)
  have h:(stp st c).1.length≤st.1.length+1∧(stp st c).2.length≤st.2.length+1:=by
   unfold stp
   split
   ·simp
   ·split
    ·exact ⟨Nat.le_succ _,Nat.le_succ _⟩
    ·simp
  rw [List.foldl_cons,List.length_cons]
  omega
open M01 in
theorem Jt (t:List Nat):(scn t).1.length≤t.length∧(scn t).2.length≤t.length:=by
 obtain ⟨h1,h2⟩:=yS t ([],[])
 simp only [List.length_nil,Nat.zero_add] at h1 h2
 exact ⟨h1,h2⟩
structure vN (H:Hp) (k:Addr) (l:Addr) (xs:List Str):Prop where
 nk:l≠k
 ex:∃ us:List V,H l=some (.lst us)∧us.length=xs.length∧∀ (i:Nat) (u:V) (x:Str),us[i]?=some u→xs[i]?=some x→∃ t lc:Addr,u=.ref t∧H t=some (.tup [.int (siz x),.ref lc])∧H lc=some (.lst ((aV [x]).map V.str))∧lc≠k
theorem vN.same {H H':Hp} {k l:Addr} {xs:List Str} (h:vN H k l xs) (s:Same H H'):vN H' k l xs:=by
 obtain ⟨us,e,hl,f⟩:=h.ex
 refine ⟨h.nk,us,s _ _ e,hl,fun i u x hu hx=>?_⟩
 obtain ⟨t,lp,e1,e2,e3,e4⟩:=f i u x hu hx
 exact ⟨t,lp,e1,s _ _ e2,s _ _ e3,e4⟩
theorem vN.upd {H:Hp} {k l:Addr} {xs:List Str} {ws vs:List V} (h:vN H k l xs) (hk:H k=some (.lst vs)):vN (L2.upd H k (.lst ws)) k l xs:=by
 obtain ⟨us,e,hl,f⟩:=h.ex
 refine ⟨h.nk,us,(aM h.nk).trans e,hl,fun i u x hu hx=>?_⟩
 obtain ⟨t,lp,e1,e2,e3,e4⟩:=f i u x hu hx
 refine ⟨t,lp,e1,(aM fun z=>?_).trans e2,(aM e4).trans e3,e4⟩
 rw [z,hk] at e2
 cases e2
def sI:Sp:=fun vs H Q _=>∃ x:Str,vs=[.str x]∧Asc 1000 x∧∀ (l:Addr) (H':Hp),H l=none→Same H H'→H' l=some (.lst ((aV [x]).map V.str))→Q (.ref l) H'
def wj:Sp:=fun vs H Q _=>∃ (q1 q2:Addr) (xs ys:List Str),vs=[.ref q1,.ref q2]∧H q1=some (.tup (xs.map V.str))∧H q2=some (.tup (ys.map V.str))∧xs.length≤5∧ys.length≤5∧(∀ x∈xs,Asc 1000 x)∧(∀ x∈ys,Asc 1000 x)∧∀ (l a b:Addr) (H':Hp),Same H H'→H' l=some (.lst [.ref a,.ref b])→vN H' l a xs→vN H' l b ys→Q (.ref l) H'
section
open M01
variable {P:Program} {w:World} {K:PySem.W.Frag} {mg:Str→Option Value} {base:Heap}
theorem jH:aP ["_law_text_here", "_law_cores_here", "_law_core", "_law_sign"] ["_law_text_here"] (au kZ):=⟨rfl,rfl,rfl,by decide +kernel,rfl,by decide +kernel,by decide +kernel⟩
theorem Bp (h:Has K mg "_law_cores" kZ ["_law_text_here"])  : Cal P w K mg base "_law_cores" 1 ["_law_text_here"] sI:=by
 refine h.mk' jH (fun vs H Q E hs=>?_) (fun f cdv A outer s H vs Q E hr hs=>?_)
 ·obtain ⟨x,rfl,_⟩:=hs
  rfl
 obtain ⟨x,rfl,ax,k⟩:=hs
 refine ⟨_,(aB (aW (i:=1) jH.nd rfl (Or.inl rfl) (cU ao))
  (aB (aW (i:=2) jH.nd rfl (Or.inl rfl) bL)
  (aB (cW PassesOwn.never rfl (yp (aX eZ (qC PySem.F.plainAttrs_str PySem.F.slot_str_lower PySem.F.type_str_lower tW (pv 0)) bL)) (aD (i:=3) jH.nd rfl (Or.inl rfl))
   (aC (dW (aY yt (pv 3) bL (by with_unfolding_all rfl))
   (aC (aW (i:=2) jH.nd rfl (Or.inl rfl) (aX eZ (pv 2) (pv 3))))
   (aC (dW (aY Hw (pv 2) bL (bG _))
   (aB (eN (iw PySem.F.plainAttrs_list PySem.F.slot_list_append PySem.F.type_list_append cH (pv 1) (aj (pv 2) ao)))
  (aC (aW (i:=2) jH.nd rfl (Or.inl rfl) bL)))
   bK)))))
  (aC (aR (pv 1)))))),?_⟩
 refine ⟨smn 0,fun l hl=>?_⟩
 have lx:=ax.l
 have exl:=vG x
 have e32:Str.cps " " = #[32]:=by decide +kernel
 have ey:(mkS (x.cps.toList.map lo1)++(" " : Str)).cps.toList=x.cps.toList.map lo1++[32]:=by
  show ((x.cps.toList.map lo1).toArray++Str.cps " ").toList=_
  rw [e32]
  simp
 have e0:("" : Str)=mkS []:=by decide +kernel
 have hcw:=vK ax.c
 have hlen:(x.cps.toList.map lo1++[32]).length≤1001:=by
  rw [List.length_append,List.length_map,exl,List.length_singleton]
  omega
 have hoc:∀ c∈x.cps.toList.map lo1++[32],(!(Builtin.Str.occurrences SG ⟨#[c]⟩ 0 (Str.length SG) 1).isEmpty)=isW c:=fun c hc=>by
  rcases List.mem_append.mp hc with hc | hc
  ·obtain ⟨d,hd,rfl⟩:=List.mem_map.mp hc
   have:=xV d (ax.c d hd)
   rw [this.2,this.1]
  ·rw [List.mem_singleton.mp hc,vW.2,vW.1]
 generalize x.cps.toList.map lo1++[32]=tl at ey hcw hlen hoc
 have hysz:(mkS (x.cps.toList.map lo1)++(" " : Str)).cps.size=tl.length:=by rw [← ey,Array.length_toList]
 refine gN (gN ⟨_,rfl,rfl,x.cps.toList,congrArg V.str (n6 x),rfl,ax.c,by omega,_,_,rfl,rfl,Nat.le_trans (m:=1000000) ?_ cg,_,rfl,?_⟩)
 ·show ((x.cps.toList.map lo1).toArray).size+(Str.cps " ").size≤1000000
  rw [e32,List.size_toArray,List.length_map,exl]
  show x.length+1≤_
  omega
 refine G3 (x:=mkS (x.cps.toList.map lo1)++(" " : Str)) (fun i σ H2=>∃ v3:Option V,σ=[some (.str x),some (.ref l),some (.str (mkS (scn (tl.take i)).2)),v3]∧Same H H2∧H2 l=some (.lst (((scn (tl.take i)).1.map mkS).map V.str))) ⟨none,congrArg (fun z=>[some (V.str x),some (V.ref l),some (V.str z),none]) e0,aq hl _,ak⟩ ?_ ?_
 ·rintro i c σ H2 hc ⟨v3,rfl,s2,e2⟩
  have hc':tl[i]?=some c:=by rw [← ey]; simpa using hc
  have hsn:scn (tl.take (i+1))=stp (scn (tl.take i)) c:=by rw [take_one hc',uE]
  have hb:=Jt (tl.take i)
  rw [List.length_take] at hb
  have hi:=(List.getElem?_eq_some_iff.mp hc').1
  refine gN ⟨_,rfl,_,_,rfl,rfl,_,rfl,?_⟩
  rw [hoc c (List.mem_of_getElem? hc')]
  rw [hsn]
  generalize scn (tl.take i)=st at e2 hb
  unfold stp
  refine dR (fun hw=>?_) (fun hw=>?_)
  ·rw [if_pos hw]
   refine ⟨_,rfl,_,rfl,_,_,rfl,rfl,Nat.le_trans (show (mkS st.2).length+1≤1000000 by show st.2.toArray.size+1≤_; rw [List.size_toArray]; omega) cg,?_⟩
   exact ⟨_,congrArg (fun z=>[some (V.str x),some (V.ref l),some (V.str z),some (V.str ⟨#[c]⟩)]) (Bx st.2 c),s2,e2⟩
  ·rw [if_neg hw]
   refine ⟨_,rfl,rfl,_,rfl,?_⟩
   by_cases he:st.2=[]
   ·rw [decide_eq_true (yx.mpr he)]
    refine qM ⟨some (.str ⟨#[c]⟩),?_,s2,?_⟩
    ·rw [if_pos he]
     rfl
    ·rw [if_pos he]
     exact e2
   ·rw [decide_eq_false (fun z=>he (yx.mp z)),if_neg he]
    refine gB ⟨_,rfl,.inl ⟨rfl,_,SqL.of e2⟩,_,rfl,l,_,_,rfl,rfl,e2,Nat.lt_of_lt_of_le (show _ < 1000000 by rw [List.length_map,List.length_map]; omega) cg,?_⟩
    refine ⟨_,congrArg (fun z=>[some (V.str x),some (V.ref l),some (V.str z),some (V.str ⟨#[c]⟩)]) e0,aU s2 hl,?_⟩
    rw [ak]
    simp
 ·rintro σ H2 ⟨v3,rfl,s2,e2⟩
  rw [hysz,List.take_length,hcw] at e2
  exact ⟨_,rfl,k l H2 hl s2 e2⟩
end
section
open M01
variable {P:Program} {w:World} {K:PySem.W.Frag} {mg:Str→Option Value} {base:Heap}
theorem rY:aP ["_law_ones", "_law_others", "_law_sides_here", "_law_row"] ["_law_ones", "_law_others"] (au jM):=⟨rfl,rfl,rfl,by decide +kernel,rfl,by decide +kernel,by decide +kernel⟩
theorem FN (h:Has K mg "_law_sides" jM ["_law_ones", "_law_others"]) (C_lcores:Cal P w K mg base "_law_cores" 1 ["_law_text_here"] sI) (m_len:mg "len" = none):Cal P w K mg base "_law_sides" 2 ["_law_ones", "_law_others"] wj:=by
 refine h.mk' rY (fun vs H Q E hs=>?_) (fun f cdv A outer s H vs Q E hr hs=>?_)
 ·obtain ⟨q1,q2,xs,ys,rfl,_⟩:=hs
  rfl
 obtain ⟨q1,q2,xs,ys,rfl,hq1,hq2,hx,hy,ax,ay,k⟩:=hs
 refine ⟨_,(aB (aW (i:=2) rY.nd rfl (Or.inl rfl) (cU ao))
  (aB (cW PassesOwn.never rfl (cI (bD (aj (pv 0) (aj (pv 1) ao)))) (aD (i:=3) rY.nd rfl (Or.inl rfl))
   (aC (eN (iw PySem.F.plainAttrs_list PySem.F.slot_list_append PySem.F.type_list_append cH (pv 2) (aj (aZ ["_law_ones", "_law_others", "_law_sides_here", "_law_row"] (au jM) ["_law_text_here"] [none] rfl rfl rfl (cI (pv 3)) rfl (by decide +kernel) (by decide +kernel) (by decide +kernel) (by decide +kernel) (hg:=fun cl C s H ex pn E=>(aD (i:=0) (by decide +kernel:(["_law_text_here"]:List Str).Nodup) rfl (Or.inl rfl))) (ht:=fun cl C s H ex pn E=>bh) (he:=fun cl C s H ex pn E=>(bD (aj (aG (dM (K:=K) rfl) rfl m_len PySem.boot_len (aj (aZ ["_law_text_here"] _ ["_law_sign"] [none] rfl rfl rfl (yp (pv 0)) rfl (by decide +kernel) (by decide +kernel) (Jw (by decide +kernel)) (by decide +kernel) (hg:=fun cl C s H ex pn E=>(aD (i:=0) (by decide +kernel:(["_law_sign"]:List Str).Nodup) rfl (Or.inl rfl))) (ht:=fun cl C s H ex pn E=>(jc (aY oM (pv 0) bL (by with_unfolding_all rfl)))) (he:=fun cl C s H ex pn E=>(pv 0))) ao)) (aj (aK C_lcores hr (by decide) rfl (aj (pv 0) ao)) ao))))) ao)))))
  (aC (aR (pv 2))))),?_⟩
 refine ⟨smn 0,fun ls hls=>?_⟩
 refine gN ⟨_,rfl,_,rfl,smn 2,fun tp htp=>?_⟩
 have s0:=(aq hls (.lst [])).trans (aq htp (.tup [.ref q1,.ref q2]))
 have e0:(upd (upd H ls (.lst [])) tp (.tup [.ref q1,.ref q2])) ls=some (.lst []):=aq htp _ _ _ ak
 have et:(upd (upd H ls (.lst [])) tp (.tup [.ref q1,.ref q2])) tp=some (.tup [.ref q1,.ref q2]):=ak
 generalize upd (upd H ls (.lst [])) tp (.tup [.ref q1,.ref q2])=H0 at s0 e0 et
 refine ⟨tp,rfl,⟨_,SqT.of et⟩,?_⟩
 refine jF (K:=K) (a:=tp) (xs:=[.ref q1,.ref q2]) (fun i σ H1=>∃ (v3:Option V) (as:List Addr),σ=[some (.ref q1),some (.ref q2),some (.ref ls),v3]∧Same H H1∧H1 tp=some (.tup [.ref q1,.ref q2])∧H1 ls=some (.lst (as.map V.ref))∧as.length=i∧∀ (j:Nat) (a:Addr) (zs:List Str),as[j]?=some a→[xs,ys][j]?=some zs→vN H1 ls a zs) ⟨_,[],rfl,s0,et,e0,rfl,fun j a zs h=>by simp at h⟩ ?_ ?_ ?_
 ·rintro i σ H1 _ ⟨_,_,_,_,ee,_⟩
  exact SqT.of ee
 ·rintro i y σ H1 hi ⟨v3,as,rfl,s1,et1,e1,hn,hsd⟩
  have hrow:∃ (q:Addr) (zs:List Str),y=.ref q∧[xs,ys][i]?=some zs∧H q=some (.tup (zs.map V.str))∧zs.length≤5∧(∀ x∈zs,Asc 1000 x):=by
   match i,hi with
   | 0,hi=>exact ⟨q1,xs,(Option.some.inj hi).symm,rfl,hq1,hx,ax⟩
   | 1,hi=>exact ⟨q2,ys,(Option.some.inj hi).symm,rfl,hq2,hy,ay⟩
  have hi2:i < 2:=(List.getElem?_eq_some_iff.mp hi).1
  obtain ⟨q,zs,rfl,hz,hq,hzl,az⟩:=hrow
  have hq':=s1 _ _ hq
  refine gN ⟨_,rfl,.inl ⟨rfl,_,SqL.of e1⟩,_,rfl,q,rfl,⟨_,SqT.of hq'⟩,fun lr hlr=>?_⟩
  have nrl:lr≠ls:=(aF e1 hlr).symm
  refine bF (J:=Itt K q) (l:=lr) zs.length (fun i σ' H'=>∃ (v:Option V) (ms:List V),σ'=[v]∧Same H1 H'∧H' lr=some (.lst ms)∧ms.length=i∧∀ (j:Nat) (u:V) (x:Str),ms[j]?=some u→zs[j]?=some x→∃ t lc:Addr,u=.ref t∧H' t=some (.tup [.int (siz x),.ref lc])∧H' lc=some (.lst ((aV [x]).map V.str))∧lc≠lr∧lc≠ls) ⟨none,[],rfl,aq hlr _,ak,rfl,fun j u x h=>by simp at h⟩ ?_ ?_
  ·rintro σ' H2 ⟨v,ms,rfl,s2,e2,hm,hu⟩
   refine ⟨⟨_,SqT.of (s2 _ _ hq'),by rw [List.length_map]; exact Nat.le_refl _⟩,?_⟩
   have el:=s2 _ _ e1
   have new:vN H2 ls lr zs:=⟨nrl,ms,e2,hm,fun j u x h1 h2=>by
    obtain ⟨t,lc,a,b,c,d,e⟩:=hu j u x h1 h2
    exact ⟨t,lc,a,b,c,e⟩⟩
   refine ⟨ls,_,_,rfl,rfl,el,aH (by rw [List.length_map]; omega),_,as++[lr],rfl,?_,?_,?_,by rw [List.length_append,hn]; rfl,fun j a zs' h1 h2=>?_⟩
   ·intro c o z
    rw [aM (aF z hls)]
    exact s2 _ _ (s1 _ _ z)
   ·exact iu el _ _ (s2 _ _ et1)
   ·rw [ak,List.map_append]
    rfl
   ·by_cases hj:j < as.length
    ·rw [List.getElem?_append_left hj] at h1
     exact ((hsd j a zs' h1 h2).same s2).upd el
    ·have hj2:j=as.length:=by
      have:=(List.getElem?_eq_some_iff.mp h1).1
      rw [List.length_append,List.length_singleton] at this
      omega
     subst hj2
     rw [List.getElem?_append_right (Nat.le_refl _),Nat.sub_self] at h1
     have ea:a=lr:=(Option.some.inj h1).symm
     rw [hn,hz] at h2
     have ez:zs'=zs:=(Option.some.inj h2).symm
     subst ea
     subst ez
     exact new.upd el
  ·rintro j σ' H2 hj ⟨v,ms,rfl,s2,e2,hm,hu⟩
   have hat:=DN hj
   refine ⟨⟨_,_,SqT.of (s2 _ _ hq'),hat⟩,?_⟩
   rintro y H3 ⟨rfl,hy⟩
   have ey:y=.str zs[j]:=Option.some.inj ((hy _ (SqT.of (s2 _ _ hq'))).symm.trans hat)
   subst ey
   have axj:=az zs[j] (List.getElem_mem hj)
   have hzj:=bB hj
   generalize zs[j]=x at axj hzj
   have exl:=vG x
   have lx:=axj.l
   refine gN (jy (gB ⟨_,rfl,x,rfl,fun l5 hl5=>?_⟩))
   refine bF (J:=Its x) (l:=l5) x.cps.size (fun i σ' H'=>∃ (v:Option V) (ws:List V),σ'=[v]∧Same H3 H'∧H' l5=some (.lst ws)∧ws.length≤i∧((ws.length:Nat):Int)=sz (x.cps.toList.take i)) ⟨none,[],rfl,aq hl5 _,ak,Nat.le_refl _,rfl⟩ ?_ ?_
   ·rintro σ' H5 ⟨v,ws,rfl,s5,e5,hw5,hws⟩
    have ews:((ws.length:Nat):Int)=siz x:=by
     rw [hws,show x.cps.size=x.cps.toList.length by rw [Array.length_toList],List.take_length]
     rfl
    refine ⟨Nat.le_refl _,l5,_,rfl,.inl (SqL.of e5),?_⟩
    rw [ews]
    refine ⟨_,rfl,x,rfl,axj,fun lc H6 hfree s6 e6=>⟨smn 2,fun t ht=>?_⟩⟩
    have s7:=aq ht (.tup [.int (siz x),.ref lc])
    have e7:(upd H6 t (.tup [.int (siz x),.ref lc])) t=some (.tup [.int (siz x),.ref lc]):=ak
    have s37:=(s5.trans s6).trans s7
    have elc:=s7 _ _ e6
    have er:=s37 _ _ e2
    have nlr:lc≠lr:=(aF (s5 _ _ e2) hfree).symm
    have nls:lc≠ls:=(aF (s5 _ _ (s2 _ _ e1)) hfree).symm
    generalize upd H6 t (.tup [.int (siz x),.ref lc])=H7 at s7 e7 s37 elc er
    refine ⟨ms,er,aH (by omega),_,ms++[.ref t],rfl,aU (s2.trans s37) hlr,ak,by rw [List.length_append,hm]; rfl,fun j' u x' h1 h2=>?_⟩
    have keep:∀ (c:Addr) (o:HO),H7 c=some o→c≠lr→(upd H7 lr (.lst (ms++[V.ref t]))) c=some o:=fun c o z h=>by rw [aM h]; exact z
    by_cases hj':j' < ms.length
    ·rw [List.getElem?_append_left hj'] at h1
     obtain ⟨t',lc',a,b,c,d,e⟩:=hu j' u x' h1 h2
     refine ⟨t',lc',a,keep _ _ (s37 _ _ b) (fun z=>?_),keep _ _ (s37 _ _ c) d,d,e⟩
     rw [z,e2] at b
     cases b
    ·have hj2:j'=ms.length:=by
      have:=(List.getElem?_eq_some_iff.mp h1).1
      rw [List.length_append,List.length_singleton] at this
      omega
     subst hj2
     rw [List.getElem?_append_right (Nat.le_refl _),Nat.sub_self] at h1
     have eu:u=.ref t:=(Option.some.inj h1).symm
     rw [hm,hzj] at h2
     have exx:x'=x:=(Option.some.inj h2).symm
     subst exx
     refine ⟨t,lc,eu,keep _ _ e7 (fun z=>?_),keep _ _ elc nlr,nlr,nls⟩
     rw [z,er] at e7
     cases e7
   ·rintro i' σ' H5 hi' ⟨v,ws,rfl,s5,e5,hw5,hws⟩
    refine ⟨hi',?_⟩
    rintro y H6 ⟨rfl,c,hc,rfl⟩
    have hc':x.cps.toList[i']?=some c:=by simpa using hc
    have hi3:=(List.getElem?_eq_some_iff.mp hc').1
    have htk:x.cps.toList.take (i' + 1)=x.cps.toList.take i'++[c]:=take_one hc'
    have hsn:=z7 (x.cps.toList.take i') c
    refine gN ⟨_,rfl,_,_,rfl,rfl,_,rfl,?_⟩
    rw [K4 c (axj.c c (List.mem_of_getElem? hc')),htk,hsn]
    by_cases h32:c=32∨c=10
    ·rw [decide_eq_true h32,if_pos h32,Int.add_zero]
     exact qM ⟨_,ws,rfl,s5,e5,by omega,hws⟩
    ·rw [decide_eq_false h32,if_neg h32]
     refine gB ⟨_,rfl,ws,e5,Nat.lt_of_lt_of_le (show _ < 1000000 by omega) cg,_,ws++[_],rfl,aU s5 hl5,ak,by rw [List.length_append,List.length_singleton]; omega,?_⟩
     rw [List.length_append,List.length_singleton]
     omega
 ·rintro σ H1 ⟨v3,as,rfl,s1,et1,e1,hn,hsd⟩
  match as,hn with
  | [a,b],_=>exact ⟨_,rfl,k ls a b H1 s1 e1 (hsd 0 a xs rfl rfl) (hsd 1 b ys rfl rfl)⟩
end
def SdE (H:Hp) (us:List V) (xs:List Str):Prop:=us.length=xs.length∧∀ (i:Nat) (u:V) (x:Str),us[i]?=some u→xs[i]?=some x→∃ t lc:Addr,u=.ref t∧H t=some (.tup [.int (siz x),.ref lc])∧H lc=some (.lst ((aV [x]).map V.str))
theorem SdE.same {H H':Hp} {us:List V} {xs:List Str} (h:SdE H us xs) (s:Same H H'):SdE H' us xs:=⟨h.1,fun i u x a b=>by
 obtain ⟨t,lc,e1,e2,e3⟩:=h.2 i u x a b
 exact ⟨t,lc,e1,s _ _ e2,s _ _ e3⟩⟩
theorem pI {c:Str} {xs:List Str}:(xs.map fun x=>decide (c∈aV [x])).any id=decide (c∈aV xs):=by
 rw [Bool.eq_iff_iff,List.any_map,List.any_eq_true,decide_eq_true_eq,lK]
 simp
theorem tZ {K:PySem.W.Frag} {l lb:Addr} {c:Str} {us:List V} {xs:List Str} {H:Hp} {R:Hp→Prop} (e:H l=some (.lst us)) (hE:SdE H us xs) (hx:xs.length≤3) (hlb:H lb=none)
  (hfin:∀ H',Same H H'→H' lb=some (.lst ((xs.map fun x=>decide (c∈aV [x])).map V.bl))→R H') :
  ∃ W:Nat→Nat→L2.St→Hp→Prop,(∃ m,W 0 m [some (.str c),none,none] (upd H lb (.lst [])))∧∀ i m σ H,W i m σ H →
   ((Itl K l).stop i H∧R H)∨((Itl K l).go i H∧∃ N:L2.St→Hp→Prop,(∀ σ' H',N σ' H'→∃ m',m' < m∧W (i+1) m' σ' H') ∧
    ∀ x H',(Itl K l).yld i H x H'→qW K 2 (dO (cO 1) (dO (cO 2) su)) x σ H' fun σ2 H2=>G6 σ2 H2 fun b H3=>if b=true then tOp (rIn K false) (vo 0) (vo 2) σ2 H3 fun v H4=>∃ ys,H4 lb=some (.lst ys)∧ys.length < sizeLine∧N σ2 (upd H4 lb (.lst (ys++[v]))) else N σ2 H3):=by
 refine bF (J:=Itl K l) (l:=lb) us.length (fun i σ' H'=>∃ v1 v2:Option V,σ'=[some (.str c),v1,v2]∧Same H H'∧H' lb=some (.lst (((xs.take i).map fun x=>decide (c∈aV [x])).map V.bl))) ⟨none,none,rfl,aq hlb _,ak⟩ ?_ ?_
 ·rintro σ' H1 ⟨v1,v2,rfl,s1,e1⟩
  rw [hE.1,List.take_length] at e1
  exact ⟨⟨_,SqL.of (s1 _ _ e),Nat.le_refl _⟩,hfin H1 s1 e1⟩
 ·rintro i σ' H1 hi ⟨v1,v2,rfl,s1,e1⟩
  have hix:i < xs.length:=by have:=hE.1; omega
  refine ⟨⟨_,_,SqL.of (s1 _ _ e),bB hi⟩,?_⟩
  rintro y H2 ⟨rfl,hy⟩
  have ey:y=us[i]:=Option.some.inj ((hy _ (SqL.of (s1 _ _ e))).symm.trans (bB hi))
  obtain ⟨t,lc,eu,ht,hlc⟩:=hE.2 i us[i] xs[i] (bB hi) (bB hix)
  rw [eu] at ey
  subst ey
  refine ⟨t,_,rfl,SqT.of (s1 _ _ ht),rfl,_,_,rfl,_,_,rfl,rfl,jy (gB ?_)⟩
  refine ⟨_,rfl,_,rfl,lc,_,rfl,.inl (SqL.of (s1 _ _ hlc)),rfl,oR _,_,e1,aH (by rw [List.length_map,List.length_map,List.length_take]; omega),_,_,rfl,aU s1 hlb,?_⟩
  rw [ak,take_one (bB hix),List.map_append,List.map_append]
  rw [show (if false=true then !inV (V.str c) ((aV [xs[i]]).map V.str) else inV (V.str c) ((aV [xs[i]]).map V.str))=inV (V.str c) ((aV [xs[i]]).map V.str) from rfl,rA]
  rfl
theorem uH {K:PySem.W.Frag} {l lb:Addr} {us:List V} {xs:List Str} {H:Hp} {R:Hp→Prop} (e:H l=some (.lst us)) (hE:SdE H us xs) (hx:xs.length≤3) (hlb:H lb=none)
  (hfin:∀ H',Same H H'→H' lb=some (.lst ((xs.map siz).map V.int))→R H') :
  ∃ W:Nat→Nat→L2.St→Hp→Prop,(∃ m,W 0 m [none,none] (upd H lb (.lst [])))∧∀ i m σ H,W i m σ H →
   ((Itl K l).stop i H∧R H)∨((Itl K l).go i H∧∃ N:L2.St→Hp→Prop,(∀ σ' H',N σ' H'→∃ m',m' < m∧W (i+1) m' σ' H') ∧
    ∀ x H',(Itl K l).yld i H x H'→qW K 2 (dO (cO 0) (dO (cO 1) su)) x σ H' fun σ2 H2=>G6 σ2 H2 fun b H3=>if b=true then vo 0 σ2 H3 fun v H4=>∃ ys,H4 lb=some (.lst ys)∧ys.length < sizeLine∧N σ2 (upd H4 lb (.lst (ys++[v]))) else N σ2 H3):=by
 refine bF (J:=Itl K l) (l:=lb) us.length (fun i σ' H'=>∃ v1 v2:Option V,σ'=[v1,v2]∧Same H H'∧H' lb=some (.lst (((xs.take i).map siz).map V.int))) ⟨none,none,rfl,aq hlb _,ak⟩ ?_ ?_
 ·rintro σ' H1 ⟨v1,v2,rfl,s1,e1⟩
  rw [hE.1,List.take_length] at e1
  exact ⟨⟨_,SqL.of (s1 _ _ e),Nat.le_refl _⟩,hfin H1 s1 e1⟩
 ·rintro i σ' H1 hi ⟨v1,v2,rfl,s1,e1⟩
  have hix:i < xs.length:=by have:=hE.1; omega
  refine ⟨⟨_,_,SqL.of (s1 _ _ e),bB hi⟩,?_⟩
  rintro y H2 ⟨rfl,hy⟩
  have ey:y=us[i]:=Option.some.inj ((hy _ (SqL.of (s1 _ _ e))).symm.trans (bB hi))
  obtain ⟨t,lc,eu,ht,hlc⟩:=hE.2 i us[i] xs[i] (bB hi) (bB hix)
  rw [eu] at ey
  subst ey
  refine ⟨t,_,rfl,SqT.of (s1 _ _ ht),rfl,_,_,rfl,_,_,rfl,rfl,jy (gB ?_)⟩
  refine ⟨_,rfl,_,e1,aH (by rw [List.length_map,List.length_map,List.length_take]; omega),_,_,rfl,aU s1 hlb,?_⟩
  rw [ak,take_one (bB hix),List.map_append,List.map_append]
  rfl
theorem SdE.pick {H:Hp} {us:List V} {xs:List Str} {is:List Nat} (h:SdE H us xs) (hi:∀ k∈is,k < xs.length):SdE H (is.map fun k=>us.getD k .non) (Mine.pick xs is):=by
 have hl:=h.1
 refine ⟨by unfold Mine.pick; rw [List.length_map,List.length_map],fun i u x hu hx=>?_⟩
 unfold Mine.pick at hx
 rw [List.getElem?_map] at hu hx
 cases hq:is[i]? with
 | none=>rw [hq] at hu; cases hu
 | some k =>
  rw [hq] at hu hx
  have hkx:=hi k (List.mem_of_getElem? hq)
  have eu:us.getD k .non=u:=Option.some.inj hu
  have ex:xs.getD k Str.empty=x:=Option.some.inj hx
  refine h.2 k u x ?_ ?_
  ·rw [← eu,List.getD_eq_getElem?_getD,List.getElem?_eq_getElem (by omega)]
   rfl
  ·rw [← ex,List.getD_eq_getElem?_getD,List.getElem?_eq_getElem hkx]
   rfl
theorem tU {K:PySem.W.Frag} {l a q lb:Addr} {us vs:List V} {is:List Nat} {n:Int} {H:Hp} {R:Hp→Prop} (el:H l=some (.lst vs)) (hat:atI vs n=some (.ref a)) (ea:H a=some (.lst us)) (eq:H q=some (.tup (is.map fun k=>V.int (k:Nat)))) (hi:∀ k∈is,k < us.length) (hx:is.length≤3) (hlb:H lb=none)
  (hfin:∀ H',Same H H'→H' lb=some (.lst (is.map fun k=>us.getD k .non))→R H') :
  ∃ W:Nat→Nat→L2.St→Hp→Prop,(∃ m,W 0 m [some (.ref l),none] (upd H lb (.lst [])))∧∀ i m σ H,W i m σ H →
   ((Itt K q).stop i H∧R H)∨((Itt K q).go i H∧∃ N:L2.St→Hp→Prop,(∀ σ' H',N σ' H'→∃ m',m' < m∧W (i+1) m' σ' H') ∧
    ∀ x H',(Itt K q).yld i H x H'→cO 1 x σ H' fun σ2 H2=>G6 σ2 H2 fun b H3=>if b=true then tOp (HS K) (tOp (HS K) (vo 0) (tC (.int n))) (vo 1) σ2 H3 fun v H4=>∃ ys,H4 lb=some (.lst ys)∧ys.length < sizeLine∧N σ2 (upd H4 lb (.lst (ys++[v]))) else N σ2 H3):=by
 refine bF (J:=Itt K q) (l:=lb) is.length (fun i σ' H'=>∃ v1:Option V,σ'=[some (.ref l),v1]∧Same H H'∧H' lb=some (.lst ((is.take i).map fun k=>us.getD k .non))) ⟨none,rfl,aq hlb _,ak⟩ ?_ ?_
 ·rintro σ' H1 ⟨v1,rfl,s1,e1⟩
  rw [List.take_length] at e1
  exact ⟨⟨_,SqT.of (s1 _ _ eq),by rw [List.length_map]; exact Nat.le_refl _⟩,hfin H1 s1 e1⟩
 ·rintro i σ' H1 hii ⟨v1,rfl,s1,e1⟩
  have hr:(is.map fun k=>V.int (k:Nat))[i]?=some (.int (is[i]:Nat)):=by rw [List.getElem?_map,List.getElem?_eq_getElem hii]; rfl
  refine ⟨⟨_,_,SqT.of (s1 _ _ eq),hr⟩,?_⟩
  rintro y H2 ⟨rfl,hy⟩
  have ey:y=.int (is[i]:Nat):=Option.some.inj ((hy _ (SqT.of (s1 _ _ eq))).symm.trans hr)
  subst ey
  have hik:=hi _ (List.getElem_mem hii)
  have hu:us[is[i]]?=some (us.getD is[i] .non):=by rw [List.getD_eq_getElem?_getD,List.getElem?_eq_getElem hik]; rfl
  refine gN (jy (gB ⟨_,rfl,l,_,_,_,rfl,rfl,SqL.of (s1 _ _ el),hat,_,rfl,a,_,_,_,rfl,rfl,SqL.of (s1 _ _ ea),bw hu,_,e1,aH (by rw [List.length_map,List.length_take]; omega),_,rfl,aU s1 hlb,?_⟩))
  rw [ak,take_one (bB hii),List.map_append]
  rfl
structure nq (H:Hp) (l a b qw qp:Addr) (xs ys:List Str) (us:List V) (ps:List (Str × Str)) (ns:List Int):Prop where
 el:H l=some (.lst [.ref a,.ref b])
 sa:vN H l a xs
 sb:vN H l b ys
 tx:∀ x∈xs,x.length≤1000
 ty:∀ x∈ys,x.length≤1000
 qw:H qw=some (.tup us)
 ul:us.length≤1000
 P:PrT H us ps
 qp:H qp=some (.tup (ns.map V.int))
 n5:ns.length=5
theorem nq.same {H H':Hp} {l a b qw qp:Addr} {xs ys:List Str} {us:List V} {ps:List (Str × Str)} {ns:List Int} (h:nq H l a b qw qp xs ys us ps ns) (s:Same H H'):nq H' l a b qw qp xs ys us ps ns:=⟨s _ _ h.el,h.sa.same s,h.sb.same s,h.tx,h.ty,s _ _ h.qw,h.ul,h.P.same s,s _ _ h.qp,h.n5⟩
def Ej:Sp:=fun vs H Q _=>∃ (l a b qw qp:Addr) (v:V) (q:Lk) (xs ys:List Str) (us:List V) (ps:List (Str × Str)) (ns:List Int),vs=[.ref l,v,.ref qw,.ref qp]∧nq H l a b qw qp xs ys us ps ns∧Den H v (lkD q)∧Ef xs.length ys.length q∧∀ H',Same H H'→Q (.int (fL ns xs ys ps q)) H'
section
open M01
variable {P:Program} {w:World} {K:PySem.W.Frag} {mg:Str→Option Value} {base:Heap}
theorem iW:aP ["_law_sides_here", "_law_link_here", "_law_known_here", "_law_prices_here", "_law_ones", "_law_others", "_law_many", "_law_one", "_law_other", "_law_left_here", "_law_unlike"] ["_law_sides_here", "_law_link_here", "_law_known_here", "_law_prices_here"] (au jA):=⟨rfl,rfl,rfl,by decide +kernel,rfl,by decide +kernel,by decide +kernel⟩
theorem Jl (h:Has K mg "_law_link" jA ["_law_sides_here", "_law_link_here", "_law_known_here", "_law_prices_here"]) (m_len:mg "len" = none) (m_any:mg "any" = none) (m_abs:mg "abs" = none) (m_sum:mg "sum" = none) (m_max:mg "max" = none):Cal P w K mg base "_law_link" 1 ["_law_sides_here", "_law_link_here", "_law_known_here", "_law_prices_here"] Ej:=by
 refine h.mk' iW (fun vs H Q E hs=>?_) (fun f cdv A outer s H vs Q E hr hs=>?_)
 ·obtain ⟨l,a,b,qw,qp,v,q,xs,ys,us,ps,ns,rfl,_⟩:=hs
  rfl
 obtain ⟨l,a,b,qw,qp,v,q,xs,ys,us,ps,ns,rfl,⟨el,sa,sb,hx2,hy2,hw,hu,hP,hqp,hns⟩,hv,hq,k⟩:=hs
 refine ⟨_,(aB (lE (ix:=4) iW.nd rfl rfl ["_law_sides_here", "_law_link_here", "_law_known_here", "_law_prices_here", "_law_ones", "_law_others", "_law_many", "_law_one", "_law_other", "_law_left_here", "_law_unlike"] (au jA) ["_law_sides_here", "_law_place"] [some 0,none] rfl rfl rfl (cI (bA bH (pv 1) aA (fun _ _=>rfl))) rfl (by decide +kernel) (by decide +kernel) (by decide +kernel) (by decide +kernel) (hg:=fun cl C s H ex pn E=>(aD (i:=1) (by decide +kernel:(["_law_sides_here", "_law_place"]:List Str).Nodup) rfl (Or.inl rfl))) (ht:=fun cl C s H ex pn E=>bh) (he:=fun cl C s H ex pn E=>(bA (dG (K:=K) rfl) (bA (dG (K:=K) rfl) (pv 0) aA (fun _ _=>rfl)) (pv 1) (fun _ _=>rfl))))
  (aB (lE (ix:=5) iW.nd rfl rfl ["_law_sides_here", "_law_link_here", "_law_known_here", "_law_prices_here", "_law_ones", "_law_others", "_law_many", "_law_one", "_law_other", "_law_left_here", "_law_unlike"] (au jA) ["_law_sides_here", "_law_place"] [some 0,none] rfl rfl rfl (cI (bA bH (pv 1) aA (fun _ _=>rfl))) rfl (by decide +kernel) (by decide +kernel) (by decide +kernel) (by decide +kernel) (hg:=fun cl C s H ex pn E=>(aD (i:=1) (by decide +kernel:(["_law_sides_here", "_law_place"]:List Str).Nodup) rfl (Or.inl rfl))) (ht:=fun cl C s H ex pn E=>bh) (he:=fun cl C s H ex pn E=>(bA (dG (K:=K) rfl) (bA (dG (K:=K) rfl) (pv 0) aA (fun _ _=>rfl)) (pv 1) (fun _ _=>rfl))))
  (aB (dW (PW.pt (Br (aY gG (aG aQ rfl m_len PySem.boot_len (aj (pv 4) ao)) aA (bG _)) (uN (aY gG (aG aQ rfl m_len PySem.boot_len (aj (pv 5) ao)) aA (bG _)))))
   (aC (aR (bA bH (pv 3) aA (fun _ _=>rfl))))
   bK)
  (aB (aW (i:=6) iW.nd rfl (Or.inl rfl) aA)
  (aB (cW PassesOwn.never rfl (cI (pv 2)) (cR (n:=2) rfl (aL (aD (i:=7) iW.nd rfl (Or.inr rfl)) (aL (aD (i:=8) iW.nd rfl (Or.inr rfl)) bU)))
   (aB (aW (i:=9) iW.nd rfl (Or.inl rfl) (aG (oY rfl) rfl m_any boot_any (aj (aZ ["_law_sides_here", "_law_link_here", "_law_known_here", "_law_prices_here", "_law_ones", "_law_others", "_law_many", "_law_one", "_law_other", "_law_left_here", "_law_unlike"] (au jA) ["_law_one", "_law_size", "_law_cores_here"] [some 7,none,none] rfl rfl rfl (cZ (pv 4)) rfl (by decide +kernel) (by decide +kernel) (by decide +kernel) (by decide +kernel) (g:=qW K 2 (dO (cO 1) (dO (cO 2) su))) (hg:=fun cl C s H ex pn E=>cR (n:=2) rfl (aL (aD (i:=1) (by decide +kernel:(["_law_one", "_law_size", "_law_cores_here"]:List Str).Nodup) rfl (Or.inl rfl) (Or.inr rfl)) (aL (aD (i:=2) (by decide +kernel:(["_law_one", "_law_size", "_law_cores_here"]:List Str).Nodup) rfl (Or.inl rfl) (Or.inr rfl)) bU))) (ht:=fun cl C s H ex pn E=>bh) (he:=fun cl C s H ex pn E=>(gK (mJ (K:=K) rfl) (pv 0) (pv 2) (by with_unfolding_all rfl)))) ao)))
  (aC (dW (PW.pt (iy (iZ (pv 9)) (iI (iZ (aG (oY rfl) rfl m_any boot_any (aj (aZ ["_law_sides_here", "_law_link_here", "_law_known_here", "_law_prices_here", "_law_ones", "_law_others", "_law_many", "_law_one", "_law_other", "_law_left_here", "_law_unlike"] (au jA) ["_law_other", "_law_size", "_law_cores_here"] [some 8,none,none] rfl rfl rfl (cZ (pv 5)) rfl (by decide +kernel) (by decide +kernel) (by decide +kernel) (by decide +kernel) (g:=qW K 2 (dO (cO 1) (dO (cO 2) su))) (hg:=fun cl C s H ex pn E=>cR (n:=2) rfl (aL (aD (i:=1) (by decide +kernel:(["_law_other", "_law_size", "_law_cores_here"]:List Str).Nodup) rfl (Or.inl rfl) (Or.inr rfl)) (aL (aD (i:=2) (by decide +kernel:(["_law_other", "_law_size", "_law_cores_here"]:List Str).Nodup) rfl (Or.inl rfl) (Or.inr rfl)) bU))) (ht:=fun cl C s H ex pn E=>bh) (he:=fun cl C s H ex pn E=>(gK (mJ (K:=K) rfl) (pv 0) (pv 2) (by with_unfolding_all rfl)))) ao))))))
   (aC (aW (i:=6) iW.nd rfl (Or.inl rfl) (aX bI (pv 6) aA)))
   bK))))
  (aB (aW (i:=10) iW.nd rfl (Or.inl rfl) (aG kO rfl m_abs boot_abs (aj (aX gF (aG (cV rfl) rfl m_sum boot_sum (aj (aZ ["_law_sides_here", "_law_link_here", "_law_known_here", "_law_prices_here", "_law_ones", "_law_others", "_law_many", "_law_one", "_law_other", "_law_left_here", "_law_unlike"] (au jA) ["_law_size", "_law_cores_here"] [none,none] rfl rfl rfl (cZ (pv 4)) rfl (by decide +kernel) (by decide +kernel) (by decide +kernel) (by decide +kernel) (g:=qW K 2 (dO (cO 0) (dO (cO 1) su))) (hg:=fun cl C s H ex pn E=>cR (n:=2) rfl (aL (aD (i:=0) (by decide +kernel:(["_law_size", "_law_cores_here"]:List Str).Nodup) rfl (Or.inl rfl) (Or.inr rfl)) (aL (aD (i:=1) (by decide +kernel:(["_law_size", "_law_cores_here"]:List Str).Nodup) rfl (Or.inl rfl) (Or.inr rfl)) bU))) (ht:=fun cl C s H ex pn E=>bh) (he:=fun cl C s H ex pn E=>(pv 0))) ao)) (aG (cV rfl) rfl m_sum boot_sum (aj (aZ ["_law_sides_here", "_law_link_here", "_law_known_here", "_law_prices_here", "_law_ones", "_law_others", "_law_many", "_law_one", "_law_other", "_law_left_here", "_law_unlike"] (au jA) ["_law_size", "_law_cores_here"] [none,none] rfl rfl rfl (cZ (pv 5)) rfl (by decide +kernel) (by decide +kernel) (by decide +kernel) (by decide +kernel) (g:=qW K 2 (dO (cO 0) (dO (cO 1) su))) (hg:=fun cl C s H ex pn E=>cR (n:=2) rfl (aL (aD (i:=0) (by decide +kernel:(["_law_size", "_law_cores_here"]:List Str).Nodup) rfl (Or.inl rfl) (Or.inr rfl)) (aL (aD (i:=1) (by decide +kernel:(["_law_size", "_law_cores_here"]:List Str).Nodup) rfl (Or.inl rfl) (Or.inr rfl)) bU))) (ht:=fun cl C s H ex pn E=>bh) (he:=fun cl C s H ex pn E=>(pv 0))) ao))) ao)))
  (aC (aR (aX gF (aX bI (aX jj (bA bH (pv 3) aA (fun _ _=>rfl)) (aX gF (aG (qg rfl) rfl m_max boot_max (aj (aG aQ rfl m_len PySem.boot_len (aj (pv 4) ao)) (aj (aG aQ rfl m_len PySem.boot_len (aj (pv 5) ao)) ao))) aA)) (aX jj (bA bH (pv 3) aA (fun _ _=>rfl)) (pv 10))) (aX jj (bA bH (pv 3) aA (fun _ _=>rfl)) (pv 6))))))))))),?_⟩
 obtain ⟨lk,t0,t1,rfl,ek,e0,e1⟩:=jG hv
 obtain ⟨ua,ea,la,fa⟩:=sa.ex
 obtain ⟨ub,eb,lb,fb⟩:=sb.ex
 have EA:SdE H ua xs:=⟨la,fun i u x h1 h2=>by obtain ⟨t,lc,p,q,r,_⟩:=fa i u x h1 h2; exact ⟨t,lc,p,q,r⟩⟩
 have EB:SdE H ub ys:=⟨lb,fun i u x h1 h2=>by obtain ⟨t,lc,p,q,r,_⟩:=fb i u x h1 h2; exact ⟨t,lc,p,q,r⟩⟩
 clear fa fb
 have hia:=hq.a
 have hib:=hq.b
 have hqa:=hq.la
 have hqb:=hq.lb
 have EA:=EA.pick hia
 have EB:=EB.pick hib
 have hx2':=j6 hia hx2
 have hy2':=j6 hib hy2
 have lpa:(Mine.pick xs q.1).length=q.1.length:=List.length_map _
 have lpb:(Mine.pick ys q.2).length=q.2.length:=List.length_map _
 have kk:∀ H',Same H H'→q.1≠[]→q.2≠[]→Q (.int (costOf ns (Mine.pick xs q.1) (Mine.pick ys q.2) ps)) H':=fun H' s h1 h2=>by
  have:=k H' s
  unfold fL at this
  rw [if_neg (by intro z; rcases z with z | z; exact h1 z; exact h2 z)] at this
  exact this
 have k0:∀ H',Same H H'→(q.1=[]∨q.2=[])→Q (.int (ns.getD 0 0)) H':=fun H' s h=>by
  have:=k H' s
  unfold fL at this
  rw [if_pos h] at this
  exact this
 have at0:atI (ns.map V.int) 0=some (.int (ns.getD 0 0)):=bw (j:=0) (int_at (by omega))
 rw [← la] at hia
 rw [← lb] at hib
 have eua:(q.1.map fun k=>ua.getD k .non).length=(Mine.pick xs q.1).length:=by rw [List.length_map,lpa]
 have eub:(q.2.map fun k=>ub.getD k .non).length=(Mine.pick ys q.2).length:=by rw [List.length_map,lpb]
 clear la lb
 rw [← lpa] at hqa
 rw [← lpb] at hqb
 have ha0:(Mine.pick xs q.1).length=0→q.1=[]:=fun z=>List.eq_nil_of_length_eq_zero (by omega)
 have hb0:(Mine.pick ys q.2).length=0→q.2=[]:=fun z=>List.eq_nil_of_length_eq_zero (by omega)
 have hc0:0 < (Mine.pick xs q.1).length→q.1≠[]:=fun z h=>by rw [lpa,h] at z; exact Nat.lt_irrefl 0 z
 have hd0:0 < (Mine.pick ys q.2).length→q.2≠[]:=fun z h=>by rw [lpb,h] at z; exact Nat.lt_irrefl 0 z
 clear lpa lpb k
 have kt0:atI [V.ref t0,V.ref t1] 0=some (.ref t0):=cD _ _
 have kt1:atI [V.ref t0,V.ref t1] 1=some (.ref t1):=bw (xs:=[V.ref t0,V.ref t1]) (j:=1) rfl
 have ka:atI [V.ref a,V.ref b] 0=some (.ref a):=cD _ _
 have kb:atI [V.ref a,V.ref b] 1=some (.ref b):=bw (xs:=[V.ref a,V.ref b]) (j:=1) rfl
 refine ⟨_,rfl,lk,_,_,_,rfl,rfl,SqT.of ek,kt0,t0,rfl,⟨_,SqT.of e0⟩,fun l4 hl4=>?_⟩
 refine tU el ka ea e0 hia hq.la hl4 fun H4 s4 e4=>?_
 refine gN ⟨_,rfl,lk,_,_,_,rfl,rfl,SqT.of (s4 _ _ ek),kt1,t1,rfl,⟨_,SqT.of (s4 _ _ e1)⟩,fun l5 hl5=>?_⟩
 refine tU (s4 _ _ el) kb (s4 _ _ eb) (s4 _ _ e1) hib hq.lb hl5 fun H5 s5 e5=>?_
 have s05:=s4.trans s5
 replace e4:=s5 _ _ e4
 clear e0 e1 ek kt0 kt1 ka kb ea eb
 generalize (q.1.map fun k=>ua.getD k .non)=ua' at EA e4 eua
 generalize (q.2.map fun k=>ub.getD k .non)=ub' at EB e5 eub
 generalize Mine.pick xs q.1=xs' at EA hx2' eua hqa ha0 hc0 kk
 generalize Mine.pick ys q.2=ys' at EB hy2' eub hqb hb0 hd0 kk
 have b1:=lA hx2'
 have b2:=lA hy2'
 have n0:∀ {n:Nat},decide (V.int ((n:Nat):Int)=V.int 0)=decide (n=0):=fun {n}=>decide_eq_decide.mpr ⟨fun z=>by
  injection z with z
  omega,fun z=>by rw [z]; rfl⟩
 refine gN ⟨_,rfl,l4,_,rfl,.inl (SqL.of e4),rfl,_,rfl,?_⟩
 rw [n0]
 refine dR (fun c1=>?_) (fun c1=>?_)
 ·have c1:=of_decide_eq_true c1
  exact ⟨_,rfl,qp,_,_,_,rfl,rfl,SqT.of (s05 _ _ hqp),at0,k0 H5 s05 (.inl (ha0 (by omega)))⟩
 have hx:1≤xs'.length∧xs'.length≤3:=⟨by
  rcases Nat.eq_zero_or_pos xs'.length with z | z
  ·exact absurd (decide_eq_true (by omega)) c1
  ·exact z,hqa⟩
 refine ⟨_,rfl,l5,_,rfl,.inl (SqL.of e5),rfl,_,rfl,?_⟩
 rw [n0]
 refine dR (fun c2=>?_) (fun c2=>?_)
 ·have c2:=of_decide_eq_true c2
  exact ⟨_,rfl,qp,_,_,_,rfl,rfl,SqT.of (s05 _ _ hqp),at0,k0 H5 s05 (.inr (hb0 (by omega)))⟩
 have hy:1≤ys'.length∧ys'.length≤3:=⟨by
  rcases Nat.eq_zero_or_pos ys'.length with z | z
  ·exact absurd (decide_eq_true (by omega)) c2
  ·exact z,hqb⟩
 refine gN ⟨_,rfl,qw,rfl,⟨_,SqT.of (s05 _ _ hw)⟩,?_⟩
 clear c1 c2 k0 ha0 hb0
 have k:=fun H' s=>kk H' s (hc0 hx.1) (hd0 hy.1)
 clear kk hc0 hd0
 have PE5:=hP.same s05
 refine jF (K:=K) (a:=qw) (xs:=us) (fun i σ H6=>∃ v7 v8 v9 v10:Option V,σ=[some (.ref l),some (.ref lk),some (.ref qw),some (.ref qp),some (.ref l4),some (.ref l5),some (.int (ur (aV xs') (aV ys') (ps.take i):Nat)),v7,v8,v9,v10]∧Same H5 H6) ⟨_,_,_,_,rfl,Same.refl _⟩ ?_ ?_ ?_
 ·rintro i σ H6 _ ⟨_,_,_,_,_,s6⟩
  exact SqT.of (s6 _ _ (s05 _ _ hw))
 ·rintro i y σ H6 hi ⟨v7,v8,v9,v10,rfl,s6⟩
  have hil:=(List.getElem?_eq_some_iff.mp hi).1
  have hip:i < ps.length:=by rw [← hP.1]; exact hil
  obtain ⟨t,rfl,ht⟩:=(PE5.same s6).2 i y ps[i] hi (bB hip)
  have hsn:=wC (as:=aV xs') (bs:=aV ys') hip
  generalize ps[i]=pp at ht hsn
  have s06:=s05.trans s6
  refine ⟨t,_,rfl,SqT.of ht,rfl,_,_,rfl,_,_,rfl,rfl,?_⟩
  refine ⟨_,rfl,l4,rfl,⟨_,SqL.of (s6 _ _ e4)⟩,fun l7 hl7=>?_⟩
  refine tZ (s6 _ _ e4) (EA.same s06) hx.2 hl7 fun H7 s7 e7=>?_
  refine ⟨l7,_,rfl,SqL.of e7,?_⟩
  rw [pI]
  refine gN ⟨_,rfl,_,rfl,?_⟩
  refine dR (fun c1=>?_) (fun c1=>?_)
  ·refine ⟨_,rfl,l5,rfl,⟨_,SqL.of (s7 _ _ (s6 _ _ e5))⟩,fun l8 hl8=>?_⟩
   refine tZ (s7 _ _ (s6 _ _ e5)) (EB.same (s06.trans s7)) hy.2 hl8 fun H8 s8 e8=>?_
   refine ⟨l8,_,rfl,SqL.of e8,_,rfl,?_⟩
   rw [pI]
   refine dR (fun c2=>?_) (fun c2=>?_)
   ·have hB:uO (aV xs') (aV ys') pp=true:=by
     unfold uO
     rw [c1,c2]
     rfl
    rw [if_pos hB] at hsn
    refine ⟨_,rfl,_,_,rfl,rfl,?_⟩
    refine ⟨some (.str pp.1),some (.str pp.2),some (.bl (decide (pp.1∈aV xs'))),v10,?_,(s6.trans s7).trans s8⟩
    rw [hsn]
    rfl
   ·have hB:¬ uO (aV xs') (aV ys') pp=true:=fun z=>c2 (Bool.and_eq_true_iff.mp z).2
    rw [if_neg hB,Nat.add_zero] at hsn
    refine ⟨some (.str pp.1),some (.str pp.2),some (.bl (decide (pp.1∈aV xs'))),v10,?_,(s6.trans s7).trans s8⟩
    rw [hsn]
    rfl
  ·have hB:¬ uO (aV xs') (aV ys') pp=true:=fun z=>c1 (Bool.and_eq_true_iff.mp z).1
   rw [if_neg hB,Nat.add_zero] at hsn
   refine qM ⟨some (.str pp.1),some (.str pp.2),some (.bl (decide (pp.1∈aV xs'))),v10,?_,s6.trans s7⟩
   rw [hsn]
   rfl
 ·rintro σ H6 ⟨v7,v8,v9,v10,rfl,s6⟩
  rw [hP.1,List.take_length]
  have s06:=s05.trans s6
  refine ⟨_,rfl,l4,rfl,⟨_,SqL.of (s6 _ _ e4)⟩,fun l7 hl7=>?_⟩
  refine uH (s6 _ _ e4) (EA.same s06) hx.2 hl7 fun H7 s7 e7=>?_
  refine ⟨l7,_,rfl,SqL.of e7,_,rfl,l5,rfl,⟨_,SqL.of (s7 _ _ (s6 _ _ e5))⟩,fun l8 hl8=>?_⟩
  refine uH (s7 _ _ (s6 _ _ e5)) (EB.same (s06.trans s7)) hy.2 hl8 fun H8 s8 e8=>?_
  refine ⟨l8,_,rfl,SqL.of e8,_,_,rfl,rfl,_,rfl,?_⟩
  have s08:=(s06.trans s7).trans s8
  have q8:=s08 _ _ hqp
  have e48:=s8 _ _ (s7 _ _ (s6 _ _ e4))
  have e58:=s8 _ _ (s7 _ _ (s6 _ _ e5))
  have at1:atI (ns.map V.int) 1=some (.int (ns.getD 1 0)):=bw (j:=1) (int_at (by omega))
  have at3:atI (ns.map V.int) 3=some (.int (ns.getD 3 0)):=bw (j:=3) (int_at (by omega))
  have at4:atI (ns.map V.int) 4=some (.int (ns.getD 4 0)):=bw (j:=4) (int_at (by omega))
  have bm:-(2 ^ 64) < Ae (ua'.length:Nat) (ub'.length:Nat) - 1∧Ae (ua'.length:Nat) (ub'.length:Nat) - 1 < 2 ^ 64:=by
   unfold Ae
   split <;> omega
  have bd:-(2 ^ 64) < Ab ((xs'.map siz).sum - (ys'.map siz).sum)∧Ab ((xs'.map siz).sum - (ys'.map siz).sum) < 2 ^ 64:=by
   unfold Ab
   split <;> omega
  have hLb:ur (aV xs') (aV ys') ps≤1000:=by
   unfold ur
   have:=List.length_filter_le (uO (aV xs') (aV ys')) ps
   have:=hP.1
   omega
  refine gN ⟨_,rfl,qp,_,_,_,rfl,rfl,SqT.of q8,at1,_,rfl,l4,_,rfl,.inl (SqL.of e48),_,rfl,l5,_,rfl,.inl (SqL.of e58),_,_,rfl,_,_,rfl,rfl,_,_,rfl,rfl,.inr bm,_,rfl,qp,_,_,_,rfl,rfl,SqT.of q8,at3,_,rfl,_,_,rfl,rfl,.inr bd,_,_,rfl,rfl,_,rfl,qp,_,_,_,rfl,rfl,SqT.of q8,at4,_,rfl,_,_,rfl,rfl,.inr ⟨by omega,by omega⟩,_,_,rfl,rfl,?_⟩
  have:=k H8 s08
  unfold costOf CP at this
  rw [← eua,← eub] at this
  exact this
end
theorem fX {H:Hp} {us:List V} {v:V} {ss:List Stp} {s:Stp} (h:cQ H us (ss.map stD)) (hv:Den H v (stD s)):cQ H (us++[v]) ((ss++[s]).map stD):=by
 rw [List.map_append]
 exact h.snoc hv
theorem fQ {H:Hp} {p:Addr} {is:List Nat} (e:H p=some (.tup (is.map fun k=>V.int (k:Nat)))):Den H (.ref p) (nD is):=⟨p,_,rfl,e,uF H is⟩
def prs:List (Nat × Nat):=[(0,0),(0,1),(0,2),(0,3),(1,0),(1,1),(1,2),(1,3),(2,0),(2,1),(2,2),(2,3),(3,0),(3,1),(3,2),(3,3)]
theorem JR:∀ a < 4,∀ b < 4,prs[4 * a+b]?=some (a,b):=by decide
def Ac (i j m n:Nat) (p:Nat × Nat):Bool:=decide (i+p.1≤m∧j+p.2≤n) && decide (p.1+p.2=1∨min p.1 p.2=1)
theorem Gv (i j m n:Nat):prs.filter (Ac i j m n)=shapes.filter fun s=>decide (i+s.1≤m∧j+s.2≤n):=by
 have e:shapes=prs.filter fun p=>decide (p.1+p.2=1∨min p.1 p.2=1):=by decide
 rw [e,List.filter_filter]
 rfl
theorem CQ {i j m n a b:Nat} (ha:a < 4) (hb:b < 4):((prs.take (4 * a+(b+1))).filter (Ac i j m n)).map (one i j)=((prs.take (4 * a+b)).filter (Ac i j m n)).map (one i j)++if Ac i j m n (a,b)=true then [one i j (a,b)] else []:=by
 rw [show 4 * a+(b+1)=4 * a+b+1 by omega,List.take_add_one,JR a ha b hb,List.filter_append,List.map_append]
 congr 1
 show List.map (one i j) (List.filter (Ac i j m n) [(a,b)])=_
 split
 ·rename_i h
  rw [List.filter_cons_of_pos h]
  rfl
 ·rename_i h
  rw [List.filter_cons_of_neg h]
  rfl
def yE:Sp:=fun vs H Q _=>∃ (i j m n:Nat),vs=[.int (i:Nat),.int (j:Nat),.int (m:Nat),.int (n:Nat)]∧i≤m∧j≤n∧m≤1000∧n≤1000 ∧
 ∀ (l:Addr) (us:List V) (H':Hp),Same H H'→H l=none→H' l=some (.lst us)→cQ H' us ((aJ i j m n).map stD)→Q (.ref l) H'
def Li:Sp:=fun vs H Q _=>∃ (v:V) (s:Stp) (i j:Int),vs=[v,.int i,.int j]∧Den H v (stD s)∧s.length≤2∧∀ (p:Addr) (H':Hp),Same H H'→H' p=some (.tup [.int (i+(sz1 s:Nat)),.int (j+(sz2 s:Nat))])→Q (.ref p) H'
def Eh:Sp:=fun vs H Q _=>∃ (l a b qw qp:Addr) (v:V) (st:Stp) (xs ys:List Str) (us:List V) (ps:List (Str × Str)) (ns:List Int),vs=[.ref l,v,.ref qw,.ref qp]∧nq H l a b qw qp xs ys us ps ns∧Den H v (stD st)∧(∀ q∈st,Ef xs.length ys.length q)∧1≤st.length∧st.length≤2∧∀ H',Same H H'→Q (.int (bx ns xs ys ps st)) H'
section
variable {P:Program} {w:World} {K:PySem.W.Frag} {mg:Str→Option Value} {base:Heap}
theorem Dw:aP ["_law_sides_here", "_law_step_here", "_law_known_here", "_law_prices_here", "_law_cost"] ["_law_sides_here", "_law_step_here", "_law_known_here", "_law_prices_here"] (au pF):=⟨rfl,rfl,rfl,by decide +kernel,rfl,by decide +kernel,by decide +kernel⟩
theorem HB (h:Has K mg "_law_step" pF ["_law_sides_here", "_law_step_here", "_law_known_here", "_law_prices_here"]) (C_link:Cal P w K mg base "_law_link" 1 ["_law_sides_here", "_law_link_here", "_law_known_here", "_law_prices_here"] Ej) (m_sum:mg "sum" = none) (m_len:mg "len" = none):Cal P w K mg base "_law_step" 2 ["_law_sides_here", "_law_step_here", "_law_known_here", "_law_prices_here"] Eh:=by
 refine h.mk' Dw (fun vs H Q E hs=>?_) (fun f cdv A outer s H vs Q E hr hs=>?_)
 ·obtain ⟨l,a,b,qw,qp,v,st,xs,ys,us,ps,ns,rfl,_⟩:=hs
  rfl
 obtain ⟨l,a,b,qw,qp,v,st,xs,ys,us,ps,ns,rfl,hL,hv,hin,hl1,hl2,k⟩:=hs
 refine ⟨_,(aB (aW (i:=4) Dw.nd rfl (Or.inl rfl) (aG (cV rfl) rfl m_sum boot_sum (aj (aZ ["_law_sides_here", "_law_step_here", "_law_known_here", "_law_prices_here", "_law_cost"] (au pF) ["_law_sides_here", "_law_known_here", "_law_prices_here", "_law_link_here"] [some 0,some 2,some 3,none] rfl rfl rfl (cI (pv 1)) rfl (by decide +kernel) (by decide +kernel) (by decide +kernel) (by decide +kernel) (hg:=fun cl C s H ex pn E=>(aD (i:=3) (by decide +kernel:(["_law_sides_here", "_law_known_here", "_law_prices_here", "_law_link_here"]:List Str).Nodup) rfl (Or.inl rfl))) (ht:=fun cl C s H ex pn E=>bh) (he:=fun cl C s H ex pn E=>(aK C_link hr (by decide) rfl (aj (pv 0) (aj (pv 3) (aj (pv 1) (aj (pv 2) ao))))))) ao)))
  (aC (aR (aX bI (pv 4) (aX jj (bA bH (pv 3) aA (fun _ _=>rfl)) (aX gF (aG aQ rfl m_len PySem.boot_len (aj (pv 1) ao)) aA)))))),?_⟩
 obtain ⟨q,ls,rfl,hq,dl⟩:=bO hv
 have hll:=dl.len
 rw [List.length_map] at hll
 refine ⟨_,rfl,q,rfl,⟨_,SqT.of hq⟩,fun lc hlc=>?_⟩
 refine bF (J:=Itt K q) (l:=lc) st.length (fun i σ' H'=>∃ v3:Option V,σ'=[some (.ref l),some (.ref qw),some (.ref qp),v3]∧Same H H'∧H' lc=some (.lst (((st.take i).map (fL ns xs ys ps)).map V.int))) ⟨none,rfl,aq hlc _,ak⟩ ?_ ?_
 ·rintro σ' H1 ⟨v3,rfl,s1,e1⟩
  rw [List.take_length] at e1
  refine ⟨⟨_,SqT.of (s1 _ _ hq),by omega⟩,lc,_,rfl,SqL.of e1,gN ?_⟩
  have hk:=k H1 s1
  unfold bx at hk
  have e2:ns.getD 2 0 * ((ls.length:Int) - 1)=if st.length=2 then ns.getD 2 0 else 0:=by
   rw [hll]
   split
   ·rename_i h
    rw [h]
    omega
   ·rw [show st.length=1 by omega]
    show ns.getD 2 0 * 0=0
    exact Int.mul_zero _
  rw [← e2] at hk
  exact ⟨_,rfl,_,rfl,qp,_,_,_,rfl,rfl,SqT.of (s1 _ _ hL.qp),bw (j:=2) (int_at (by have:=hL.n5; omega)),_,rfl,q,_,rfl,.inr (SqT.of (s1 _ _ hq)),_,_,rfl,rfl,_,_,rfl,rfl,.inr ⟨by omega,by omega⟩,_,_,rfl,rfl,hk⟩
 ·rintro i σ' H1 hi ⟨v3,rfl,s1,e1⟩
  have hil:i < ls.length:=by omega
  refine ⟨⟨_,_,SqT.of (s1 _ _ hq),List.getElem?_eq_getElem hil⟩,?_⟩
  rintro y H2 ⟨rfl,hy⟩
  have ey:y=ls[i]:=Option.some.inj ((hy _ (SqT.of (s1 _ _ hq))).symm.trans (List.getElem?_eq_getElem hil))
  have dy:Den H ls[i] (lkD st[i]):=at_of dl (List.getElem?_eq_getElem hil) (by rw [List.getElem?_map,List.getElem?_eq_getElem hi]; rfl)
  have hini:=hin _ (List.getElem_mem hi)
  have htk:((st.take (i+1)).map (fL ns xs ys ps)).map V.int=((st.take i).map (fL ns xs ys ps)).map V.int++[.int (fL ns xs ys ps st[i])]:=by rw [List.take_add_one,List.getElem?_eq_getElem hi,List.map_append,List.map_append]; rfl
  rw [htk]
  rw [← ey] at dy
  generalize st[i]=lk at dy hini ⊢
  refine gN (jy (gB ⟨_,rfl,_,rfl,_,rfl,_,rfl,l,a,b,qw,qp,y,lk,xs,ys,us,ps,ns,rfl,hL.same s1,dy.same s1,hini,fun H3 s3=>?_⟩))
  have s13:=s1.trans s3
  refine ⟨_,s3 _ _ e1,aH (by rw [List.length_map,List.length_map,List.length_take]; omega),_,rfl,fun x u z=>?_,ak⟩
  rw [aM (aF z hlc)]
  exact s13 _ _ z
theorem nO:aP ["_law_i", "_law_j", "_law_m", "_law_n", "_law_steps_here", "_law_a", "_law_b"] ["_law_i", "_law_j", "_law_m", "_law_n"] (au lC):=⟨rfl,rfl,rfl,by decide +kernel,rfl,by decide +kernel,by decide +kernel⟩
theorem GX (h:Has K mg "_law_steps" lC ["_law_i", "_law_j", "_law_m", "_law_n"]) (m_range:mg "range" = none) (m_min:mg "min" = none) (m_tuple:mg "tuple" = none):Cal P w K mg base "_law_steps" 1 ["_law_i", "_law_j", "_law_m", "_law_n"] yE:=by
 refine h.mk' nO (fun vs H Q E hs=>?_) (fun f cdv A outer s H vs Q E hr hs=>?_)
 ·obtain ⟨i,j,m,n,rfl,_⟩:=hs
  rfl
 obtain ⟨i,j,m,n,rfl,him,hjn,hm,hn,k⟩:=hs
 refine ⟨_,(aB (aW (i:=4) nO.nd rfl (Or.inl rfl) (cU ao))
  (aB (cW PassesOwn.never rfl (dH rfl m_range (aj aA ao)) (aD (i:=5) nO.nd rfl (Or.inl rfl))
   (aC (cW PassesOwn.never rfl (dH rfl m_range (aj aA ao)) (aD (i:=6) nO.nd rfl (Or.inl rfl))
   (aC (dW (PW.pt (iy (aY qK (aX bI (pv 0) (pv 5)) (pv 2) (bG _)) (iy (aY qK (aX bI (pv 1) (pv 6)) (pv 3) (bG _)) (iI (PW.pt (Br (aY gG (aX bI (pv 5) (pv 6)) aA (bG _)) (uN (aY gG (aG (yD rfl) rfl m_min boot_min (aj (pv 5) (aj (pv 6) ao))) aA (bG _)))))))))
   (aC (eN (iw PySem.F.plainAttrs_list PySem.F.slot_list_append PySem.F.type_list_append cH (pv 4) (aj (bD (aj (bD (aj (nT rfl rfl m_tuple rfl m_range (aj (pv 0) (aj (aX bI (pv 0) (pv 5)) ao))) (aj (nT rfl rfl m_tuple rfl m_range (aj (pv 1) (aj (aX bI (pv 1) (pv 6)) ao))) ao))) ao)) ao))))
   bK)))))
  (aB (dW (PW.pt (iy (aY qK (aX bI (pv 0) aA) (pv 2) (bG _)) (iI (aY qK (aX bI (pv 1) aA) (pv 3) (bG _)))))
   (aC (eN (iw PySem.F.plainAttrs_list PySem.F.slot_list_append PySem.F.type_list_append cH (pv 4) (aj (bD (aj (bD (aj (bD (aj (pv 0) ao)) (aj (bD (aj (aX bI (pv 1) aA) ao)) ao))) (aj (bD (aj (bD (aj (aX bI (pv 0) aA) ao)) (aj (bD (aj (pv 1) ao)) ao))) ao))) ao))))
   bK)
  (aC (aR (pv 4)))))),?_⟩
 refine ⟨smn 0,fun l hl=>?_⟩
 refine gN ⟨4,rfl,by omega,by omega,?_⟩
 refine gZ (lo:=0) (n:=4) (fun a σ H1=>∃ (v5 v6:Option V) (us:List V),σ=[some (.int (i:Nat)),some (.int (j:Nat)),some (.int (m:Nat)),some (.int (n:Nat)),some (.ref l),v5,v6]∧Same H H1∧H1 l=some (.lst us)∧us.length≤4 * a∧cQ H1 us ((((prs.take (4 * a)).filter (Ac i j m n)).map (one i j)).map stD)) ⟨_,_,[],rfl,aq hl _,ak,Nat.zero_le _,trivial⟩ ?_ ?_
 ·rintro a σ H1 ha ⟨v5,v6,us,rfl,s1,e1,l1,d1⟩
  refine gN ⟨4,rfl,by omega,by omega,?_⟩
  refine gZ (lo:=0) (n:=4) (fun b σ H2=>∃ (v6:Option V) (us:List V),σ=[some (.int (i:Nat)),some (.int (j:Nat)),some (.int (m:Nat)),some (.int (n:Nat)),some (.ref l),some (.int (0+(a:Nat))),v6]∧Same H H2∧H2 l=some (.lst us)∧us.length≤4 * a+b∧cQ H2 us ((((prs.take (4 * a+b)).filter (Ac i j m n)).map (one i j)).map stD)) ⟨_,us,rfl,s1,e1,l1,d1⟩ ?_ ?_
  ·rintro b σ H2 hb ⟨v6,us,rfl,s2,e2,l2,d2⟩
   have hnx:=CQ (i:=i) (j:=j) (m:=m) (n:=n) ha hb
   have hno:¬ (i+a≤m∧j+b≤n∧(a+b=1∨min a b=1))→∃ (w6:Option V) (us':List V),[some (.int (i:Nat)),some (.int (j:Nat)),some (.int (m:Nat)),some (.int (n:Nat)),some (.ref l),some (.int (0+(a:Nat))),some (.int (0+(b:Nat)))]=[some (.int (i:Nat)),some (.int (j:Nat)),some (.int (m:Nat)),some (.int (n:Nat)),some (.ref l),some (.int (0+(a:Nat))),w6]∧Same H H2∧H2 l=some (.lst us')∧us'.length≤4 * a+(b+1)∧cQ H2 us' ((((prs.take (4 * a+(b+1))).filter (Ac i j m n)).map (one i j)).map stD):=fun z=>by
    have hf:¬ Ac i j m n (a,b)=true:=fun q=>by
     have q:=Bool.and_eq_true_iff.mp q
     have q1:=of_decide_eq_true q.1
     exact z ⟨q1.1,q1.2,of_decide_eq_true q.2⟩
    rw [if_neg hf,List.append_nil] at hnx
    rw [hnx]
    exact ⟨_,us,rfl,s2,e2,by omega,d2⟩
   refine gN ⟨_,rfl,_,rfl,_,_,rfl,rfl,_,rfl,_,_,rfl,rfl,_,rfl,?_⟩
   refine dR (fun z1=>?_) (fun z1=>qM (hno fun q=>z1 (decide_eq_true (by have:=q.1; omega))))
   have w1:=of_decide_eq_true z1
   refine ⟨_,rfl,_,rfl,_,_,rfl,rfl,_,rfl,_,_,rfl,rfl,_,rfl,?_⟩
   refine dR (fun z2=>?_) (fun z2=>qM (hno fun q=>z2 (decide_eq_true (by have:=q.2.1; omega))))
   have w2:=of_decide_eq_true z2
   refine ⟨_,rfl,_,rfl,_,_,rfl,rfl,rfl,_,rfl,?_⟩
   refine (fun (hb':(a+b=1∨min a b=1)→_)=>dR (fun z3=>gB (hb' (.inl (by have:=of_decide_eq_true z3; injection this with this; omega)))) (fun z3=>⟨_,rfl,_,rfl,_,_,rfl,rfl,_,rfl,dR (fun z4=>hb' (.inr (by
    have:=of_decide_eq_true z4
    injection this with this
    split at this <;> omega))) (fun z4=>hno fun q=>by
    rcases q.2.2 with q | q
    ·exact z3 (decide_eq_true (by show V.int ((0+(a:Int))+(0+(b:Int)))=V.int 1; rw [show (0+(a:Int))+(0+(b:Int))=1 by omega]))
    ·refine z4 (decide_eq_true ?_)
     show V.int (if (0+(b:Int)) < 0+(a:Int) then 0+(b:Int) else 0+(a:Int))=V.int 1
     rw [show (if (0+(b:Int)) < 0+(a:Int) then 0+(b:Int) else 0+(a:Int))=1 by split <;> omega])⟩)) ?_
   intro hc
   refine ⟨_,rfl,.inl ⟨rfl,_,SqL.of e2⟩,_,rfl,_,rfl,_,rfl,_,_,rfl,rfl,_,_,rfl,⟨by omega,by omega,by omega,by omega⟩,by omega,fun p hp=>?_⟩
   rw [kj i a _ (by omega)]
   refine ⟨_,rfl,_,rfl,_,rfl,_,_,rfl,rfl,_,_,rfl,⟨by omega,by omega,by omega,by omega⟩,by omega,fun q hq=>?_⟩
   rw [kj j b _ (by omega)]
   refine ⟨smn 2,fun c hc'=>⟨smn 1,fun f hf=>?_⟩⟩
   have t1:=aq hp (.tup ((List.range' i a).map fun k=>V.int (k:Nat)))
   have t2:=aq hq (.tup ((List.range' j b).map fun k=>V.int (k:Nat)))
   have t3:=aq hc' (.tup [.ref p,.ref q])
   have t4:=aq hf (.tup [.ref c])
   have dn:=fQ (H:=upd H2 p (.tup ((List.range' i a).map fun k=>V.int (k:Nat)))) (p:=p) (is:=List.range' i a) ak
   generalize upd H2 p (.tup ((List.range' i a).map fun k=>V.int (k:Nat)))=Ha at t1 t2 t3 t4 dn
   have dn2:=fQ (H:=upd Ha q (.tup ((List.range' j b).map fun k=>V.int (k:Nat)))) (p:=q) (is:=List.range' j b) ak
   generalize upd Ha q (.tup ((List.range' j b).map fun k=>V.int (k:Nat)))=Hb at t2 t3 t4 dn2
   have dn3:Den (upd Hb c (.tup [.ref p,.ref q])) (.ref c) (lkD (List.range' i a,List.range' j b)):=⟨c,_,rfl,ak,dn.same (t2.trans t3),dn2.same t3,trivial⟩
   generalize upd Hb c (.tup [.ref p,.ref q])=Hc at t3 t4 dn3
   have dn4:Den (upd Hc f (.tup [.ref c])) (.ref f) (stD (one i j (a,b))):=⟨f,_,rfl,ak,dn3.same t4,trivial⟩
   generalize upd Hc f (.tup [.ref c])=Hd at t4 dn4
   have t:=((t1.trans t2).trans t3).trans t4
   have e5:=t _ _ e2
   have hf:Ac i j m n (a,b)=true:=Bool.and_eq_true_iff.mpr ⟨decide_eq_true ⟨by show i+a≤m; omega,by show j+b≤n; omega⟩,decide_eq_true hc⟩
   rw [if_pos hf] at hnx
   rw [hnx]
   exact ⟨l,_,_,rfl,rfl,e5,aH (by omega),_,us++[.ref f],rfl,aU (s2.trans t) hl,ak,by rw [List.length_append,List.length_singleton]; omega,fX ((d2.same t).keepT (iu e5)) (dn4.keepT (iu e5))⟩
  ·rintro σ H2 ⟨v6,us,rfl,s2,e2,l2,d2⟩
   exact ⟨_,_,us,rfl,s2,e2,by omega,d2⟩
 ·rintro σ H1 ⟨v5,v6,us,rfl,s1,e1,l1,d1⟩
  rw [show prs.take (4 * 4)=prs from rfl,Gv] at d1
  have k0:¬ (i+2≤m∧j+2≤n)→Q (.ref l) H1:=fun z=>k l us H1 s1 hl e1 (by unfold aJ; rw [if_neg z,List.append_nil]; exact d1)
  refine ⟨_,rfl,_,_,rfl,rfl,_,rfl,_,_,rfl,rfl,_,rfl,?_⟩
  refine dR (fun z1=>?_) (fun z1=>qM ⟨_,rfl,k0 fun q=>z1 (decide_eq_true (by have:=q.1; omega))⟩)
  have w1:=of_decide_eq_true z1
  refine ⟨_,rfl,_,_,rfl,rfl,_,rfl,_,_,rfl,rfl,_,rfl,?_⟩
  refine dR (fun z2=>?_) (fun z2=>⟨_,rfl,k0 fun q=>z2 (decide_eq_true (by have:=q.2; omega))⟩)
  have w2:=of_decide_eq_true z2
  refine ⟨_,rfl,.inl ⟨rfl,_,SqL.of e1⟩,_,rfl,smn 1,fun p1 hp1=>⟨_,rfl,_,_,rfl,rfl,smn 1,fun p2 hp2=>⟨smn 2,fun p3 hp3=>⟨_,rfl,_,_,rfl,rfl,smn 1,fun p4 hp4=>⟨_,rfl,smn 1,fun p5 hp5=>⟨smn 2,fun p6 hp6=>⟨smn 2,fun f hf=>?_⟩⟩⟩⟩⟩⟩⟩
  have t1:=aq hp1 (.tup [.int (i:Nat)])
  have t2:=aq hp2 (.tup [.int ((j:Nat)+1)])
  have t3:=aq hp3 (.tup [.ref p1,.ref p2])
  have t4:=aq hp4 (.tup [.int ((i:Nat)+1)])
  have t5:=aq hp5 (.tup [.int (j:Nat)])
  have t6:=aq hp6 (.tup [.ref p4,.ref p5])
  have t7:=aq hf (.tup [.ref p3,.ref p6])
  have q1:=fQ (H:=upd H1 p1 (.tup [.int (i:Nat)])) (p:=p1) (is:=[i]) ak
  generalize upd H1 p1 (.tup [.int (i:Nat)])=Ha at t1 t2 t3 t4 t5 t6 t7 q1
  have q2:=fQ (H:=upd Ha p2 (.tup [.int ((j:Nat)+1)])) (p:=p2) (is:=[j+1]) ak
  generalize upd Ha p2 (.tup [.int ((j:Nat)+1)])=Hb at t2 t3 t4 t5 t6 t7 q2
  have q3:Den (upd Hb p3 (.tup [.ref p1,.ref p2])) (.ref p3) (lkD ([i],[j+1])):=⟨p3,_,rfl,ak,q1.same (t2.trans t3),q2.same t3,trivial⟩
  generalize upd Hb p3 (.tup [.ref p1,.ref p2])=Hc at t3 t4 t5 t6 t7 q3
  have q4:=fQ (H:=upd Hc p4 (.tup [.int ((i:Nat)+1)])) (p:=p4) (is:=[i+1]) ak
  generalize upd Hc p4 (.tup [.int ((i:Nat)+1)])=Hd at t4 t5 t6 t7 q4
  have q5:=fQ (H:=upd Hd p5 (.tup [.int (j:Nat)])) (p:=p5) (is:=[j]) ak
  generalize upd Hd p5 (.tup [.int (j:Nat)])=He at t5 t6 t7 q5
  have q6:Den (upd He p6 (.tup [.ref p4,.ref p5])) (.ref p6) (lkD ([i+1],[j])):=⟨p6,_,rfl,ak,q4.same (t5.trans t6),q5.same t6,trivial⟩
  generalize upd He p6 (.tup [.ref p4,.ref p5])=Hf at t6 t7 q6
  have q7:Den (upd Hf f (.tup [.ref p3,.ref p6])) (.ref f) (stD (crs i j)):=⟨f,_,rfl,ak,q3.same (((t4.trans t5).trans t6).trans t7),q6.same t7,trivial⟩
  generalize upd Hf f (.tup [.ref p3,.ref p6])=Hg at t7 q7
  have t:=(((((t1.trans t2).trans t3).trans t4).trans t5).trans t6).trans t7
  have e5:=t _ _ e1
  refine ⟨l,_,_,rfl,rfl,e5,aH (by omega),_,rfl,?_⟩
  refine k l (us++[.ref f]) _ (aU (s1.trans t) hl) hl ak ?_
  unfold aJ
  rw [if_pos ⟨by omega,by omega⟩]
  exact fX ((d1.same t).keepT (iu e5)) (q7.keepT (iu e5))
theorem Nm:aP ["_law_step_here", "_law_i", "_law_j"] ["_law_step_here", "_law_i", "_law_j"] (au sOn):=⟨rfl,rfl,rfl,by decide +kernel,rfl,by decide +kernel,by decide +kernel⟩
theorem NT (h:Has K mg "_law_on" sOn ["_law_step_here", "_law_i", "_law_j"]) (m_sum:mg "sum" = none) (m_len:mg "len" = none):Cal P w K mg base "_law_on" 1 ["_law_step_here", "_law_i", "_law_j"] Li:=by
 refine h.mk' Nm (fun vs H Q E hs=>?_) (fun f cdv A outer s H vs Q E hr hs=>?_)
 ·obtain ⟨v,s,i,j,rfl,_⟩:=hs
  rfl
 obtain ⟨v,s,i,j,rfl,hv,hl2,k⟩:=hs
 refine ⟨_,(aC (aR (bD (aj (aX bI (pv 1) (aG (cV rfl) rfl m_sum boot_sum (aj (aZ ["_law_step_here", "_law_i", "_law_j"] (au sOn) ["_law_ones", "_law_others"] [none,none] rfl rfl rfl (cI (pv 0)) rfl (by decide +kernel) (by decide +kernel) (by decide +kernel) (by decide +kernel) (g:=qW K 2 (dO (cO 0) (dO (cO 1) su))) (hg:=fun cl C s H ex pn E=>cR (n:=2) rfl (aL (aD (i:=0) (by decide +kernel:(["_law_ones", "_law_others"]:List Str).Nodup) rfl (Or.inl rfl) (Or.inr rfl)) (aL (aD (i:=1) (by decide +kernel:(["_law_ones", "_law_others"]:List Str).Nodup) rfl (Or.inl rfl) (Or.inr rfl)) bU))) (ht:=fun cl C s H ex pn E=>bh) (he:=fun cl C s H ex pn E=>(aG (dM (K:=K) rfl) rfl m_len PySem.boot_len (aj (pv 0) ao)))) ao))) (aj (aX bI (pv 2) (aG (cV rfl) rfl m_sum boot_sum (aj (aZ ["_law_step_here", "_law_i", "_law_j"] (au sOn) ["_law_ones", "_law_others"] [none,none] rfl rfl rfl (cI (pv 0)) rfl (by decide +kernel) (by decide +kernel) (by decide +kernel) (by decide +kernel) (g:=qW K 2 (dO (cO 0) (dO (cO 1) su))) (hg:=fun cl C s H ex pn E=>cR (n:=2) rfl (aL (aD (i:=0) (by decide +kernel:(["_law_ones", "_law_others"]:List Str).Nodup) rfl (Or.inl rfl) (Or.inr rfl)) (aL (aD (i:=1) (by decide +kernel:(["_law_ones", "_law_others"]:List Str).Nodup) rfl (Or.inl rfl) (Or.inr rfl)) bU))) (ht:=fun cl C s H ex pn E=>bh) (he:=fun cl C s H ex pn E=>(aG (dM (K:=K) rfl) rfl m_len PySem.boot_len (aj (pv 1) ao)))) ao))) ao))))),?_⟩
 obtain ⟨q,ls,rfl,hq,dl⟩:=bO hv
 have hll:=dl.len
 rw [List.length_map] at hll
 have hcst:∀ f:Lk→Nat,(s.map fun p=>((f p:Nat):Int)).sum=(((s.map f).sum:Nat):Int):=fun f=>by
  clear hv hl2 k dl hll
  induction s with
  | nil=>rfl
  | cons p r ih =>
   rw [List.map_cons,List.sum_cons,List.map_cons,List.sum_cons,ih]
   exact (Int.natCast_add _ _).symm
 refine ⟨_,rfl,_,rfl,q,rfl,⟨_,SqT.of hq⟩,fun l hl=>?_⟩
 refine bF (J:=Itt K q) (l:=l) s.length (fun i σ' H'=>∃ v0 v1:Option V,σ'=[v0,v1]∧Same H H'∧H' l=some (.lst (((s.take i).map fun p=>((p.1.length:Nat):Int)).map V.int))) ⟨none,none,rfl,aq hl _,ak⟩ ?_ ?_
 ·rintro σ' H1 ⟨v0,v1,rfl,s1,e1⟩
  rw [List.take_length] at e1
  refine ⟨⟨_,SqT.of (s1 _ _ hq),by omega⟩,l,_,rfl,SqL.of e1,_,_,rfl,rfl,?_⟩
  rw [hcst fun p=>p.1.length]
  refine ⟨_,rfl,_,rfl,q,rfl,⟨_,SqT.of (s1 _ _ hq)⟩,fun m hm=>?_⟩
  refine bF (J:=Itt K q) (l:=m) s.length (fun i σ' H'=>∃ v0 v1:Option V,σ'=[v0,v1]∧Same H1 H'∧H' m=some (.lst (((s.take i).map fun p=>((p.2.length:Nat):Int)).map V.int))) ⟨none,none,rfl,aq hm _,ak⟩ ?_ ?_
  ·rintro σ' H2 ⟨v0,v1,rfl,s2,e2⟩
   rw [List.take_length] at e2
   refine ⟨⟨_,SqT.of (s2 _ _ (s1 _ _ hq)),by omega⟩,m,_,rfl,SqL.of e2,_,_,rfl,rfl,?_⟩
   rw [hcst fun p=>p.2.length]
   refine ⟨smn 2,fun r hr=>?_⟩
   exact k r _ ((s1.trans s2).trans (aq hr _)) ak
  ·rintro x σ' H2 hx ⟨v0,v1,rfl,s2,e2⟩
   have hxl:x < ls.length:=by omega
   have hat:=bB hxl
   refine ⟨⟨_,_,SqT.of (s2 _ _ (s1 _ _ hq)),hat⟩,?_⟩
   rintro y H3 ⟨rfl,hy⟩
   have ey:y=ls[x]:=Option.some.inj ((hy _ (SqT.of (s2 _ _ (s1 _ _ hq)))).symm.trans hat)
   have dy:Den H y (lkD s[x]):=by rw [ey]; exact at_of dl hat (by rw [List.getElem?_map,bB hx]; rfl)
   obtain ⟨c,a,b,rfl,hc,ha,hb⟩:=jG (dy.same (s1.trans s2))
   refine ⟨c,_,rfl,SqT.of hc,rfl,_,_,rfl,_,_,rfl,rfl,jy (gB ?_)⟩
   refine ⟨_,rfl,b,_,rfl,.inr (SqT.of hb),_,e2,?_,_,_,rfl,aU s2 hm,?_⟩
   ·rw [List.length_map,List.length_map,List.length_take]
    exact aH (by omega)
   ·rw [ak,take_one (bB hx),List.map_append,List.map_append,List.length_map]
    rfl
 ·rintro x σ' H1 hx ⟨v0,v1,rfl,s1,e1⟩
  have hxl:x < ls.length:=by omega
  have hat:=bB hxl
  refine ⟨⟨_,_,SqT.of (s1 _ _ hq),hat⟩,?_⟩
  rintro y H3 ⟨rfl,hy⟩
  have ey:y=ls[x]:=Option.some.inj ((hy _ (SqT.of (s1 _ _ hq))).symm.trans hat)
  have dy:Den H y (lkD s[x]):=by rw [ey]; exact at_of dl hat (by rw [List.getElem?_map,bB hx]; rfl)
  obtain ⟨c,a,b,rfl,hc,ha,hb⟩:=jG (dy.same s1)
  refine ⟨c,_,rfl,SqT.of hc,rfl,_,_,rfl,_,_,rfl,rfl,jy (gB ?_)⟩
  refine ⟨_,rfl,a,_,rfl,.inr (SqT.of ha),_,e1,?_,_,_,rfl,aU s1 hl,?_⟩
  ·rw [List.length_map,List.length_map,List.length_take]
   exact aH (by omega)
  ·rw [ak,take_one (bB hx),List.map_append,List.map_append,List.length_map]
   rfl
end
abbrev Grd:=Nat→Nat→Int
def fM (c:Stp→Int) (G:Grd) (i j:Nat) (s:Stp):Int:=c s+G (i+sz1 s) (j+sz2 s)
def uh (G:Grd) (i j:Nat) (v:Int):Grd:=fun a b=>if a=i∧b=j then v else G a b
theorem iG (G:Grd) (i j:Nat) (v:Int):uh G i j v i j=v:=if_pos ⟨rfl,rfl⟩
theorem gw {G:Grd} {i j a b:Nat} {v:Int} (h:¬ (a=i∧b=j)):uh G i j v a b=G a b:=if_neg h
theorem ig {c:Stp→Int} {G:Grd} {i j a b m n:Nat} {v:Int} {s:Stp} (hs:s∈aJ a b m n) (h:a=i∧b=j∨Behind i j a b):fM c (uh G i j v) a b s=fM c G a b s:=by
 have:=step_at hs
 unfold fM
 rw [gw]
 rintro ⟨h1,h2⟩
 rcases h with ⟨rfl,rfl⟩ | h | ⟨rfl,h⟩
 ·omega
 ·omega
 ·omega
theorem mH {i j a b:Nat} (h:Behind i j a b):¬ (a=i∧b=j):=fun z=>by rcases h with h | ⟨_,h⟩ <;> omega
structure fH (m n:Nat) (c:Stp→Int) (S:Nat→Nat→Prop) (G:Grd):Prop where
 nil:∀ a b,a≤m→b≤n→S a b→aJ a b m n=[]→G a b=0
 cons:∀ a b,a≤m→b≤n→S a b→aJ a b m n≠[]→∃ s∈aJ a b m n,G a b=fM c G a b s∧∀ s'∈aJ a b m n,G a b≤fM c G a b s'
 out:∀ a b,a≤m→b≤n→¬ S a b→G a b=0
theorem fH.mono {m n:Nat} {c:Stp→Int} {S T:Nat→Nat→Prop} {G:Grd} (h:fH m n c S G) (hT:∀ a b,a≤m→b≤n→(T a b↔S a b)):fH m n c T G :=
 ⟨fun a b ha hb t=>h.nil a b ha hb ((hT a b ha hb).mp t),fun a b ha hb t=>h.cons a b ha hb ((hT a b ha hb).mp t),fun a b ha hb t=>h.out a b ha hb fun z=>t ((hT a b ha hb).mpr z)⟩
theorem fH.put {m n:Nat} {c:Stp→Int} {G:Grd} {i j:Nat} {v:Int} (h:fH m n c (Behind i j) G) (h0:aJ i j m n=[]→v=0) (h1:aJ i j m n≠[]→∃ s∈aJ i j m n,v=fM c G i j s∧∀ s'∈aJ i j m n,v≤fM c G i j s'):fH m n c (fun a b=>a=i∧b=j∨Behind i j a b) (uh G i j v):=by
 refine ⟨fun a b ha hb hS z=>?_,fun a b ha hb hS z=>?_,fun a b ha hb hS=>?_⟩
 ·rcases hS with ⟨rfl,rfl⟩ | hS
  ·rw [iG,h0 z]
  ·rw [gw (mH hS)]
   exact h.nil a b ha hb hS z
 ·rcases hS with ⟨rfl,rfl⟩ | hS
  ·obtain ⟨s,hs,e1,e2⟩:=h1 z
   refine ⟨s,hs,by rw [iG,ig hs (.inl ⟨rfl,rfl⟩)]; exact e1,fun s' hs'=>?_⟩
   rw [iG,ig hs' (.inl ⟨rfl,rfl⟩)]
   exact e2 s' hs'
  ·obtain ⟨s,hs,e1,e2⟩:=h.cons a b ha hb hS z
   refine ⟨s,hs,by rw [gw (mH hS),ig hs (.inr hS)]; exact e1,fun s' hs'=>?_⟩
   rw [gw (mH hS),ig hs' (.inr hS)]
   exact e2 s' hs'
 ·rw [gw fun z=>hS (.inl z)]
  exact h.out a b ha hb fun z=>hS (.inr z)
def tie (c:Stp→Int) (G:Grd) (i j m n:Nat):List Stp:=(aJ i j m n).filter fun s=>decide (fM c G i j s=G i j)
theorem uP {c:Stp→Int} {G:Grd} {i j a b m n:Nat} {v:Int} (h:Behind i j a b):tie c (uh G i j v) a b m n=tie c G a b m n:=by
 unfold tie
 refine List.filter_congr fun s hs=>?_
 rw [ig hs (.inr h),gw (mH h)]
theorem uV {c:Stp→Int} {G:Grd} {i j m n:Nat} {v:Int}:tie c (uh G i j v) i j m n=(aJ i j m n).filter fun s=>decide (fM c G i j s=v):=by
 unfold tie
 refine List.filter_congr fun s hs=>?_
 rw [ig hs (.inl ⟨rfl,rfl⟩),iG]
theorem Eo {G:Grd} {i j n:Nat} (v:Int) (hj:j≤n):(((List.range (n+1)).map (G i)).map V.int).set j (.int v)=((List.range (n+1)).map (uh G i j v i)).map V.int:=by
 refine List.ext_getElem? fun k=>?_
 rw [List.getElem?_set]
 split
 ·rename_i e
  subst e
  rw [if_pos (by rw [List.length_map,List.length_map,List.length_range]; omega),List.getElem?_map,List.getElem?_map,List.getElem?_range (by omega)]
  show some (V.int v)=some (V.int (uh G i j v i j))
  rw [iG]
 ·rename_i e
  rw [List.getElem?_map,List.getElem?_map,List.getElem?_map,List.getElem?_map]
  rcases Nat.lt_or_ge k (n+1) with h | h
  ·rw [List.getElem?_range h]
   show some (V.int (G i k))=some (V.int (uh G i j v i k))
   rw [gw fun z=>e z.2.symm]
  ·rw [List.getElem?_eq_none (by rw [List.length_range]; exact h)]
   rfl
theorem Fw {n j:Nat} (h:j < n):ixN n ((j:Nat):Int)=some j:=by
 unfold ixN
 rw [if_pos (by omega),if_pos (by omega)]
 rfl
theorem oK {g ra:Addr} {ras:List Addr} (h:g ∉ ras) (m:ra∈ras):g≠ra:=fun z=>h (by rw [z]; exact m)
structure oW (H:Hp) (g:Addr) (m n:Nat) (G:Grd) (ras:List Addr):Prop where
 e:H g=some (.lst (ras.map V.ref))
 l:ras.length=m+1
 nd:ras.Nodup
 ng:g ∉ ras
 r:∀ (i:Nat) (ra:Addr),ras[i]?=some ra→H ra=some (.lst (((List.range (n+1)).map (G i)).map V.int))
theorem oW.same {H H':Hp} {g:Addr} {m n:Nat} {G:Grd} {ras:List Addr} (h:oW H g m n G ras) (s:Same H H'):oW H' g m n G ras:=⟨s _ _ h.e,h.l,h.nd,h.ng,fun i ra hi=>s _ _ (h.r i ra hi)⟩
theorem oW.old {H H':Hp} {g b:Addr} {m n:Nat} {G:Grd} {ras:List Addr} (h:oW H g m n G ras) (s:eX b H H') (h1:g≠b) (h2:b ∉ ras):oW H' g m n G ras:=⟨s _ _ h.e h1,h.l,h.nd,h.ng,fun i ra hi=>s _ _ (h.r i ra hi) (oK h2 (List.mem_of_getElem? hi)).symm⟩
theorem oW.get {H:Hp} {g:Addr} {m n:Nat} {G:Grd} {ras:List Addr} (h:oW H g m n G ras) {i j:Nat} (hi:i≤m) (hj:j≤n):∃ (ra:Addr) (row:List V),ras[i]?=some ra∧atI (ras.map V.ref) ((i:Nat):Int)=some (.ref ra)∧H ra=some (.lst row)∧row.length=n+1∧row=((List.range (n+1)).map (G i)).map V.int∧atI row ((j:Nat):Int)=some (.int (G i j)):=by
 have hl:i < ras.length:=by rw [h.l]; omega
 refine ⟨ras[i],_,List.getElem?_eq_getElem hl,bw (by rw [List.getElem?_map,List.getElem?_eq_getElem hl]; rfl),h.r i _ (List.getElem?_eq_getElem hl),by rw [List.length_map,List.length_map,List.length_range],rfl,bw ?_⟩
 rw [List.getElem?_map,List.getElem?_map,List.getElem?_range (by omega)]
 rfl
theorem oW.put {H:Hp} {g:Addr} {m n:Nat} {G:Grd} {ras:List Addr} (h:oW H g m n G ras) {i j:Nat} {ra:Addr} (v:Int) (hi:ras[i]?=some ra) (hj:j≤n):oW (upd H ra (.lst ((((List.range (n+1)).map (G i)).map V.int).set j (.int v)))) g m n (uh G i j v) ras:=by
 refine ⟨?_,h.l,h.nd,h.ng,fun a rb hb=>?_⟩
 ·rw [aM (oK h.ng (List.mem_of_getElem? hi))]
  exact h.e
 ·by_cases e:a=i
  ·subst e
   rw [hi] at hb
   cases hb
   rw [ak,Eo v hj]
  ·have hne:rb≠ra:=fun z=>e ((List.getElem?_inj (List.getElem?_eq_some_iff.mp hb).1 h.nd).mp (by rw [hb,hi,z]))
   rw [aM hne,h.r a rb hb]
   congr 3
   exact List.map_congr_left fun k _=>(gw fun z=>e z.1).symm
structure qJ (H:Hp) (d:Addr) (m n:Nat) (c:Stp→Int) (S:Nat→Nat→Prop) (G:Grd) (ras:List Addr) (kvs:List (List Key × V)):Prop where
 e:H d=some (.dT kvs)
 v:∀ a b,a≤m→b≤n→S a b→∃ (l:Addr) (us:List V),j9 kvs (wL a b)=some (.ref l)∧l ∉ ras∧H l=some (.lst us)∧cQ H us ((tie c G a b m n).map stD)
theorem qJ.mono {H:Hp} {d:Addr} {m n:Nat} {c:Stp→Int} {S T:Nat→Nat→Prop} {G:Grd} {ras:List Addr} {kvs:List (List Key × V)} (h:qJ H d m n c S G ras kvs) (hT:∀ a b,a≤m→b≤n→T a b→S a b):qJ H d m n c T G ras kvs:=⟨h.e,fun a b ha hb t=>h.v a b ha hb (hT a b ha hb t)⟩
theorem qJ.same {H H':Hp} {d:Addr} {m n:Nat} {c:Stp→Int} {S:Nat→Nat→Prop} {G:Grd} {ras:List Addr} {kvs:List (List Key × V)} (h:qJ H d m n c S G ras kvs) (s:Same H H'):qJ H' d m n c S G ras kvs:=⟨s _ _ h.e,fun a b ha hb t=>by
 obtain ⟨l,us,e1,e2,e3,e4⟩:=h.v a b ha hb t
 exact ⟨l,us,e1,e2,s _ _ e3,e4.same s⟩⟩
theorem qJ.keep {H H':Hp} {d:Addr} {m n:Nat} {c:Stp→Int} {S:Nat→Nat→Prop} {G:Grd} {ras:List Addr} {kvs:List (List Key × V)} (h:qJ H d m n c S G ras kvs) (he:H' d=some (.dT kvs)) (kl:∀ (b:Addr) (vs:List V),b ∉ ras→H b=some (.lst vs)→H' b=some (.lst vs)) (kt:∀ (b:Addr) (vs:List V),H b=some (.tup vs)→H' b=some (.tup vs)):qJ H' d m n c S G ras kvs:=⟨he,fun a b ha hb t=>by
 obtain ⟨l,us,e1,e2,e3,e4⟩:=h.v a b ha hb t
 exact ⟨l,us,e1,e2,kl _ _ e2 e3,e4.keepT kt⟩⟩
theorem qJ.put {H H':Hp} {d l:Addr} {m n:Nat} {c:Stp→Int} {i j:Nat} {G:Grd} {v:Int} {ras:List Addr} {us:List V} {kvs:List (List Key × V)} (h:qJ H d m n c (Behind i j) G ras kvs) (he:H' d=some (.dT (putK kvs (wL i j) (.ref l)))) (kl:∀ (b:Addr) (vs:List V),H b=some (.lst vs)→H' b=some (.lst vs)) (kt:∀ (b:Addr) (vs:List V),H b=some (.tup vs)→H' b=some (.tup vs)) (hl:l ∉ ras) (e:H' l=some (.lst us)) (hd:cQ H' us (((aJ i j m n).filter fun s=>decide (fM c G i j s=v)).map stD)) :
  qJ H' d m n c (fun a b=>a=i∧b=j∨Behind i j a b) (uh G i j v) ras (putK kvs (wL i j) (.ref l)):=by
 refine ⟨he,fun a b ha hb hS=>?_⟩
 rcases hS with ⟨rfl,rfl⟩ | hS
 ·exact ⟨l,us,by rw [m7,if_pos rfl],hl,e,by rw [uV]; exact hd⟩
 ·obtain ⟨l',us',e1,e2,e3,e4⟩:=h.v a b ha hb hS
  refine ⟨l',us',?_,e2,kl _ _ e3,?_⟩
  ·rw [m7,if_neg fun z=>mH hS (Aw z)]
   exact e1
  ·rw [uP hS]
   exact e4.keepT kt
def soD (c:Stp→Int) (G:Grd) (i j:Nat) (s:Stp):D:=.tup [.int (fM c G i j s),stD s]
theorem Ii {H:Hp} {v:V} {c:Stp→Int} {G:Grd} {i j:Nat} {s:Stp} (h:Den H v (soD c G i j s)):∃ (t:Addr) (x:V),v=.ref t∧H t=some (.tup [.int (fM c G i j s),x])∧Den H x (stD s):=by
 obtain ⟨t,x,y,rfl,ht,h1,h2⟩:=Fv h
 have h1:x=.int _:=h1
 subst h1
 exact ⟨t,y,rfl,ht,h2⟩
theorem qm {α:Type} (H:Hp) (f:α→Int):∀ xs:List α,cQ H (xs.map fun s=>V.int (f s)) (xs.map fun s=>D.int (f s))
 | []=>trivial
 | _ :: xs=>⟨rfl,qm H f xs⟩
def Dk:Sp:=fun vs H Q _=>∃ (l a b qw qp:Addr) (xs ys:List Str) (us:List V) (ps:List (Str × Str)) (ns:List Int),vs=[.ref l,.ref qw,.ref qp,.int (xs.length:Nat),.int (ys.length:Nat)]∧nq H l a b qw qp xs ys us ps ns∧xs.length≤30∧ys.length≤30 ∧
 ∀ (t g d:Addr) (G:Grd) (ras:List Addr) (kvs:List (List Key × V)) (H':Hp),Same H H'→H' t=some (.tup [.ref g,.ref d])→oW H' g xs.length ys.length G ras→qJ H' d xs.length ys.length (bx ns xs ys ps) (fun _ _=>True) G ras kvs→fH xs.length ys.length (bx ns xs ys ps) (fun _ _=>True) G→(∀ ra∈ras,H ra=none)→Q (.ref t) H'
section
variable {P:Program} {w:World} {K:PySem.W.Frag} {mg:Str→Option Value} {base:Heap}
theorem jt:aP ["_law_sides_here", "_law_known_here", "_law_prices_here", "_law_m", "_law_n", "_law_grid", "_law_steps_here", "_law_i", "_law_j", "_law_some", "_law_step_here", "_law_to", "_law_at"] ["_law_sides_here", "_law_known_here", "_law_prices_here", "_law_m", "_law_n"] (au lW):=⟨rfl,rfl,rfl,by decide +kernel,rfl,by decide +kernel,by decide +kernel⟩
theorem JK (h:Has K mg "_law_left" lW ["_law_sides_here", "_law_known_here", "_law_prices_here", "_law_m", "_law_n"]) (C_steps:Cal P w K mg base "_law_steps" 1 ["_law_i", "_law_j", "_law_m", "_law_n"] yE) (C_on:Cal P w K mg base "_law_on" 1 ["_law_step_here", "_law_i", "_law_j"] Li) (C_step:Cal P w K mg base "_law_step" 2 ["_law_sides_here", "_law_step_here", "_law_known_here", "_law_prices_here"] Eh) (m_range:mg "range" = none) (m_min:mg "min" = none):Cal P w K mg base "_law_left" 3 ["_law_sides_here", "_law_known_here", "_law_prices_here", "_law_m", "_law_n"] Dk:=by
 refine h.mk' jt (fun vs H Q E hs=>?_) (fun f cdv A outer s H vs Q E hr hs=>?_)
 ·obtain ⟨l,a,b,qw,qp,xs,ys,us,ps,ns,rfl,_⟩:=hs
  rfl
 obtain ⟨l,a,b,qw,qp,xs,ys,us,ps,ns,rfl,hL,hm,hn,k⟩:=hs
 refine ⟨_,(aB (aW (i:=5) jt.nd rfl (Or.inr rfl) (aZ ["_law_sides_here", "_law_known_here", "_law_prices_here", "_law_m", "_law_n", "_law_grid", "_law_steps_here", "_law_i", "_law_j", "_law_some", "_law_step_here", "_law_to", "_law_at"] (au lW) ["_law_n", "_law_i"] [some 4,none] rfl rfl rfl (dH rfl m_range (aj (aX bI (pv 3) aA) ao)) rfl (by decide +kernel) (by decide +kernel) (by decide +kernel) (by decide +kernel) (hg:=fun cl C s H ex pn E=>(aD (i:=1) (by decide +kernel:(["_law_n", "_law_i"]:List Str).Nodup) rfl (Or.inl rfl))) (ht:=fun cl C s H ex pn E=>bh) (he:=fun cl C s H ex pn E=>(aX HJ (cU (aj aA ao)) (aX bI (pv 0) aA)))))
  (aB (aW (i:=6) jt.nd rfl (Or.inl rfl) Cv)
  (aB (cW PassesOwn.never rfl (pJ rfl m_range (aj (pv 3) (aj (oN jR aA) (aj (oN jR aA) ao)))) (aD (i:=7) jt.nd rfl (Or.inr rfl))
   (aC (cW PassesOwn.never rfl (pJ rfl m_range (aj (pv 4) (aj (oN jR aA) (aj (oN jR aA) ao)))) (aD (i:=8) jt.nd rfl (Or.inr rfl))
   (aB (aW (i:=9) jt.nd rfl (Or.inl rfl) (cU ao))
  (aB (cW PassesOwn.never rfl (cZ (aK C_steps hr (by decide) rfl (aj (pv 7) (aj (pv 8) (aj (pv 3) (aj (pv 4) ao)))))) (aD (i:=10) jt.nd rfl (Or.inl rfl))
   (aB (jO (aK C_on hr (by decide) rfl (aj (pv 10) (aj (pv 7) (aj (pv 8) ao)))) (cR (n:=2) rfl (aL (aD (i:=11) jt.nd rfl (Or.inl rfl)) (aL (aD (i:=12) jt.nd rfl (Or.inl rfl)) bU))))
  (aC (eN (iw PySem.F.plainAttrs_list PySem.F.slot_list_append PySem.F.type_list_append cH (pv 9) (aj (bD (aj (aX bI (aK C_step hr (by decide) rfl (aj (pv 0) (aj (pv 10) (aj (pv 1) (aj (pv 2) ao))))) (bA bR (bA bR (pv 5) (pv 11) (fun _ _=>rfl)) (pv 12) (fun _ _=>rfl))) (aj (pv 10) ao))) ao))))))
  (aB (dW (aY (JG hr.units0) (pv 9) (cU ao) (bG _))
   (aC (jO (aG (yC rfl hr.units) rfl m_min boot_min (aj (aZ ["_law_sides_here", "_law_known_here", "_law_prices_here", "_law_m", "_law_n", "_law_grid", "_law_steps_here", "_law_i", "_law_j", "_law_some", "_law_step_here", "_law_to", "_law_at"] (au lW) ["_law_cost", "_law_step_here"] [none,none] rfl rfl rfl (cZ (pv 9)) rfl (by decide +kernel) (by decide +kernel) (by decide +kernel) (by decide +kernel) (g:=qW K 2 (dO (cO 0) (dO (cO 1) su))) (hg:=fun cl C s H ex pn E=>cR (n:=2) rfl (aL (aD (i:=0) (by decide +kernel:(["_law_cost", "_law_step_here"]:List Str).Nodup) rfl (Or.inl rfl) (Or.inr rfl)) (aL (aD (i:=1) (by decide +kernel:(["_law_cost", "_law_step_here"]:List Str).Nodup) rfl (Or.inl rfl) (Or.inr rfl)) bU))) (ht:=fun cl C s H ex pn E=>bh) (he:=fun cl C s H ex pn E=>(pv 0))) ao)) (xY (bA bR (pv 5) (pv 7) (fun _ _=>rfl)) (pv 8) set_list)))
   bK)
  (aC (yP (zK hr) (pv 6) (bD (aj (pv 7) (aj (pv 8) ao))) (aZ ["_law_sides_here", "_law_known_here", "_law_prices_here", "_law_m", "_law_n", "_law_grid", "_law_steps_here", "_law_i", "_law_j", "_law_some", "_law_step_here", "_law_to", "_law_at"] (au lW) ["_law_grid", "_law_i", "_law_j", "_law_cost", "_law_step_here"] [some 5,some 7,some 8,none,none] rfl rfl rfl (cZ (pv 9)) rfl (by decide +kernel) (by decide +kernel) (by decide +kernel) (by decide +kernel) (g:=qW K 2 (dO (cO 3) (dO (cO 4) su))) (hg:=fun cl C s H ex pn E=>cR (n:=2) rfl (aL (aD (i:=3) (by decide +kernel:(["_law_grid", "_law_i", "_law_j", "_law_cost", "_law_step_here"]:List Str).Nodup) rfl (Or.inl rfl) (Or.inr rfl)) (aL (aD (i:=4) (by decide +kernel:(["_law_grid", "_law_i", "_law_j", "_law_cost", "_law_step_here"]:List Str).Nodup) rfl (Or.inl rfl) (Or.inr rfl)) bU))) (ht:=fun cl C s H ex pn E=>(jc (aY gG (pv 3) (bA (dG (K:=K) rfl) (bA (dG (K:=K) rfl) (pv 0) (pv 1) (fun _ _=>rfl)) (pv 2) (fun _ _=>rfl)) (bG _)))) (he:=fun cl C s H ex pn E=>(pv 4))) rfl))))))))
  (aC (aR (bD (aj (pv 5) (aj (pv 6) ao)))))))),?_⟩
 refine ⟨_,rfl,_,_,rfl,rfl,(xs.length:Int)+1,rfl,by omega,by omega,fun g hg=>?_⟩
 have enn:((xs.length:Int)+1).toNat=xs.length+1:=by omega
 rw [enn]
 refine bF (J:=Itr 0 (xs.length+1)) (l:=g) (xs.length+1) (fun x σ' H'=>∃ (v1:Option V) (ras:List Addr),σ'=[some (.int (ys.length:Nat)),v1]∧Same H H'∧H' g=some (.lst (ras.map V.ref))∧ras.length=x∧ras.Nodup∧g ∉ ras∧∀ ra∈ras,H ra=none∧H' ra=some (.lst (List.replicate (ys.length+1) (V.int 0)))) ⟨none,[],rfl,aq hg _,ak,rfl,List.nodup_nil,(fun h=>nomatch h),fun ra h=>nomatch h⟩ ?_ ?_
 rotate_left
 ·rintro x σ' H1 hx ⟨v1,ras,rfl,s1,e1,hl1,nd1,ng1,r1⟩
  refine ⟨hx,?_⟩
  rintro y H2 ⟨rfl,rfl⟩
  refine gN (jy (gB ⟨smn 1,fun p hp=>⟨_,rfl,_,_,rfl,rfl,p,_,_,rfl,rfl,ak,by omega,by omega,small (by rw [List.length_singleton]; omega),fun q hq=>?_⟩⟩))
  have s3:=(aq hp (.lst [.int 0])).trans (aq hq (.lst (List.replicate ((ys.length:Int)+1).toNat [V.int 0]).flatten))
  have e3:(upd (upd H2 p (.lst [.int 0])) q (.lst (List.replicate ((ys.length:Int)+1).toNat [V.int 0]).flatten)) q=some (.lst (List.replicate (ys.length+1) (V.int 0))):=by
   rw [ak,show ((ys.length:Int)+1).toNat=ys.length+1 by omega]
   congr 2
   induction (ys.length+1) with
   | zero=>rfl
   | succ n ih=>rw [List.replicate_succ,List.flatten_cons,ih,List.replicate_succ]; rfl
  have hqn:H2 q=none:=by
   rw [aM] at hq
   ·exact hq
   ·intro z
    rw [z,ak] at hq
    cases hq
  generalize upd (upd H2 p (.lst [.int 0])) q (.lst (List.replicate ((ys.length:Int)+1).toNat [V.int 0]).flatten)=H3 at s3 e3 ⊢
  have e13:=s3 _ _ e1
  have hgq:g≠q:=aF e1 hqn
  refine ⟨_,e13,aH (by rw [List.length_map]; omega),_,ras++[q],rfl,aU (s1.trans s3) hg,by rw [ak,List.map_append]; rfl,by rw [List.length_append,hl1]; rfl,?_,?_,fun ra h=>?_⟩
  ·rw [List.nodup_append]
   refine ⟨nd1,by simp,fun x hx y hy z=>?_⟩
   rw [List.mem_singleton.mp hy] at z
   have:=(r1 x hx).2
   rw [z,hqn] at this
   cases this
  ·intro h
   rcases List.mem_append.mp h with h | h
   ·exact ng1 h
   ·exact hgq (List.mem_singleton.mp h)
  ·rcases List.mem_append.mp h with h | h
   ·exact ⟨(r1 ra h).1,by rw [aM (oK ng1 h).symm]; exact s3 _ _ (r1 ra h).2⟩
   ·rw [List.mem_singleton.mp h]
    refine ⟨?_,by rw [aM hgq.symm]; exact e3⟩
    cases z:H q with
    | none=>rfl
    | some u=>rw [s1 _ _ z] at hqn; cases hqn
 rintro σ' H1 ⟨v1,ras,rfl,s1,e1,hl1,nd1,ng1,r1⟩
 refine ⟨Nat.le_refl _,gN fun d hd=>gN ?_⟩
 have s2:=s1.trans (aq hd (.dT []))
 have hras:∀ ra∈ras,H ra=none:=fun ra h=>(r1 ra h).1
 have hG0:oW (upd H1 d (.dT [])) g xs.length ys.length (fun _ _=>0) ras:=by
  refine oW.same ⟨e1,hl1,nd1,ng1,fun i ra hi=>?_⟩ (aq hd _)
  rw [(r1 ra (List.mem_of_getElem? hi)).2]
  congr 2
  exact (List.eq_replicate_iff.mpr ⟨by rw [List.length_map,List.length_map,List.length_range],fun b hb=>by
   obtain ⟨q,hq,rfl⟩:=List.mem_map.mp hb
   obtain ⟨_,_,rfl⟩:=List.mem_map.mp hq
   rfl⟩).symm
 have e0:(upd H1 d (.dT [])) d=some (.dT []):=ak
 have hdH:H d=none:=by
  cases z:H d with
  | none=>rfl
  | some u=>rw [s1 _ _ z] at hd; cases hd
 have hgd:g≠d:=aF e1 hd
 clear e1 r1 hd s1
 generalize upd H1 d (.dT [])=H0 at s2 hG0 e0 ⊢
 refine ⟨_,rfl,_,rfl,_,rfl,_,xs.length+1,rfl,by omega,by omega,?_⟩
 refine sO (a:=(xs.length:Int)) (n:=xs.length+1) (fun x σ H1=>∃ (v7 v8 v9 v10 v11 v12:Option V) (G:Grd) (kvs:List (List Key × V)),σ=[some (.ref l),some (.ref qw),some (.ref qp),some (.int (xs.length:Nat)),some (.int (ys.length:Nat)),some (.ref g),some (.ref d),v7,v8,v9,v10,v11,v12]∧Same H H1∧oW H1 g xs.length ys.length G ras∧qJ H1 d xs.length ys.length (bx ns xs ys ps) (fun a _=>xs.length < a+x) G ras kvs∧fH xs.length ys.length (bx ns xs ys ps) (fun a _=>xs.length < a+x) G∧kvs.length≤x * 31)
  ⟨_,_,_,_,_,_,_,[],rfl,s2,hG0,⟨e0,fun a b ha hb z=>by omega⟩,⟨fun a b ha hb z=>by omega,fun a b ha hb z=>by omega,fun a b _ _ _=>rfl⟩,Nat.zero_le _⟩ ?_ ?_
 ·rintro x σ H1 hx ⟨v7,v8,v9,v10,v11,v12,G,kvs,rfl,s1,hG,hS,hO,hkl⟩
  obtain ⟨i,hi⟩:∃ i:Nat,xs.length=i+x:=⟨xs.length - x,by omega⟩
  have eii:(xs.length:Int) - (x:Int)=(i:Nat):=by omega
  rw [eii]
  refine gN ⟨_,rfl,_,rfl,_,rfl,_,ys.length+1,rfl,by omega,by omega,?_⟩
  refine sO (a:=(ys.length:Int)) (n:=ys.length+1) (fun y σ H2=>∃ (v8 v9 v10 v11 v12:Option V) (G:Grd) (kvs:List (List Key × V)),σ=[some (.ref l),some (.ref qw),some (.ref qp),some (.int (xs.length:Nat)),some (.int (ys.length:Nat)),some (.ref g),some (.ref d),some (.int (i:Nat)),v8,v9,v10,v11,v12]∧Same H H2∧oW H2 g xs.length ys.length G ras∧qJ H2 d xs.length ys.length (bx ns xs ys ps) (fun a b=>xs.length < a+x∨a+x=xs.length∧ys.length < b+y) G ras kvs∧fH xs.length ys.length (bx ns xs ys ps) (fun a b=>xs.length < a+x∨a+x=xs.length∧ys.length < b+y) G∧kvs.length≤x * 31+y)
   ⟨_,_,_,_,_,G,kvs,rfl,s1,hG,hS.mono (fun a b ha hb z=>by omega),hO.mono (fun a b ha hb=>⟨fun z=>by omega,fun z=>.inl z⟩),by omega⟩ ?_ ?_
  ·rintro y σ H2 hy ⟨v8,v9,v10,v11,v12,G,kvs,rfl,s2,hG,hS,hO,hkl⟩
   obtain ⟨j,hj⟩:∃ j:Nat,ys.length=j+y:=⟨ys.length - y,by omega⟩
   have ejj:(ys.length:Int) - (y:Int)=(j:Nat):=by omega
   rw [ejj]
   have hS:=hS.mono (T:=Behind i j) (fun a b ha hb z=>by unfold Behind at z; omega)
   have hO:=hO.mono (T:=Behind i j) (fun a b ha hb=>by unfold Behind; omega)
   refine gN ⟨smn 0,fun ls hls=>gN ?_⟩
   have s3:=aq hls (.lst [])
   have e3:(upd H2 ls (.lst [])) ls=some (.lst []):=ak
   have lsH:H ls=none:=by
    cases z:H ls with
    | none=>rfl
    | some u=>rw [s2 _ _ z] at hls; cases hls
   have lsg:g≠ls:=aF hG.e hls
   have lsd:d≠ls:=aF hS.e hls
   have lsr:ls ∉ ras:=fun z=>by
    obtain ⟨q,hq⟩:=List.mem_iff_getElem?.mp z
    have:=hG.r q ls hq
    rw [hls] at this
    cases this
   generalize upd H2 ls (.lst [])=H3 at s3 e3 ⊢
   refine ⟨_,rfl,_,rfl,_,rfl,_,rfl,i,j,xs.length,ys.length,rfl,by omega,by omega,by omega,by omega,fun l0 us0 H4 s4 hl0 e4 d4=>?_⟩
   have nl0:l0≠ls:=(aF e3 hl0).symm
   have s24:=s3.trans s4
   have s04:=s2.trans s24
   have hG4:=hG.same s24
   have hS4:=hS.same s24
   have els4:=s4 _ _ e3
   have hul:=d4.len
   rw [List.length_map] at hul
   have hst8:=jf i j xs.length ys.length
   refine ⟨l0,rfl,⟨_,SqL.of e4⟩,?_⟩
   refine ji (K:=K) (a:=l0) (xs:=us0) (fun z σ H5=>∃ (v10 v11 v12:Option V) (us':List V),σ=[some (.ref l),some (.ref qw),some (.ref qp),some (.int (xs.length:Nat)),some (.int (ys.length:Nat)),some (.ref g),some (.ref d),some (.int (i:Nat)),some (.int (j:Nat)),some (.ref ls),v10,v11,v12]∧eX ls H4 H5∧H5 ls=some (.lst us')∧us'.length=z∧cQ H5 us' (((aJ i j xs.length ys.length).take z).map (soD (bx ns xs ys ps) G i j))) ⟨_,_,_,[],rfl,.of (Same.refl _),els4,rfl,trivial⟩ ?_ ?_ ?_
   ·rintro z σ H5 _ ⟨_,_,_,_,_,o5,_⟩
    exact SqL.of (o5 _ _ e4 nl0)
   ·rintro z yv σ H5 hz ⟨v10,v11,v12,us',rfl,o5,e5,hl5,d5⟩
    have hzl:z < us0.length:=(List.getElem?_eq_some_iff.mp hz).1
    have hzs:z < (aJ i j xs.length ys.length).length:=by omega
    have dy:Den H4 yv (stD (aJ i j xs.length ys.length)[z]):=at_of d4 hz (by rw [List.getElem?_map,List.getElem?_eq_getElem hzs]; rfl)
    have hst:=List.getElem_mem hzs
    have htk:((aJ i j xs.length ys.length).take (z+1)).map (soD (bx ns xs ys ps) G i j)=((aJ i j xs.length ys.length).take z).map (soD (bx ns xs ys ps) G i j)++[soD (bx ns xs ys ps) G i j (aJ i j xs.length ys.length)[z]]:=by rw [List.take_add_one,List.getElem?_eq_getElem hzs,List.map_append]; rfl
    rw [htk]
    generalize (aJ i j xs.length ys.length)[z]=st at dy hst ⊢
    obtain ⟨g1,g2,g3⟩:=step_at hst
    obtain ⟨t1,t2,t3⟩:=dz hst
    have kt5:∀ (b:Addr) (vs:List V),H4 b=some (.tup vs)→H5 b=some (.tup vs):=fun b vs e=>o5 _ _ e (lZ e els4 (by intro z; cases z))
    have dy5:=dy.keepT kt5
    refine gN ⟨_,rfl,_,rfl,_,rfl,yv,st,(i:Nat),(j:Nat),rfl,dy5,t2,fun p H6 s6 e6=>?_⟩
    rw [← Int.natCast_add,← Int.natCast_add] at e6
    refine ⟨p,_,rfl,SqT.of e6,rfl,_,_,rfl,_,_,rfl,rfl,?_⟩
    have hL6:nq H6 l a b qw qp xs ys us ps ns:=by
     refine nq.same (H:=H) hL fun c o z=>?_
     refine s6 _ _ (o5 _ _ (s04 _ _ z) (aF z lsH))
    refine ⟨_,rfl,.inl ⟨rfl,_,SqL.of (s6 _ _ e5)⟩,_,rfl,_,rfl,_,rfl,_,rfl,l,a,b,qw,qp,yv,st,xs,ys,us,ps,ns,rfl,hL6,dy5.same s6,t3,t1,t2,fun H7 s7=>?_⟩
    have s57:=s6.trans s7
    have hG7:=(hG4.old o5 lsg lsr).same s57
    obtain ⟨ra,row,_,q1,q2,_,_,q3⟩:=hG7.get g1 g2
    refine ⟨_,rfl,_,rfl,g,_,_,_,rfl,rfl,SqL.of hG7.e,q1,_,rfl,ra,_,_,_,rfl,rfl,SqL.of q2,q3,_,_,rfl,rfl,_,rfl,smn 2,fun tn htn=>?_⟩
    have s8:=aq htn (.tup [.int (fM (bx ns xs ys ps) G i j st),yv])
    have e8:(upd H7 tn (.tup [.int (fM (bx ns xs ys ps) G i j st),yv])) tn=some (.tup [.int (fM (bx ns xs ys ps) G i j st),yv]):=ak
    refine ⟨ls,us',?_⟩
    generalize hH8:upd H7 tn (.tup [.int (fM (bx ns xs ys ps) G i j st),yv])=H8 at s8 e8
    have hH8:upd H7 tn (.tup [.int (bx ns xs ys ps st+G (i+sz1 st) (j+sz2 st)),yv])=H8:=hH8
    rw [hH8]
    have s58:=s57.trans s8
    have els:=s58 _ _ e5
    refine ⟨_,rfl,rfl,els,aH (by omega),_,_,_,us'++[.ref tn],rfl,fun c o z hc=>?_,ak,by rw [List.length_append,hl5]; rfl,((d5.same s58).keepT (iu els)).snoc ?_⟩
    ·rw [aM hc]
     exact s58 _ _ (o5 _ _ z hc)
    ·exact ⟨tn,_,rfl,iu els _ _ e8,rfl,(dy5.same s58).keepT (iu els),trivial⟩
   ·rintro σ H5 ⟨v10,v11,v12,us',rfl,o5,e5,hl5,d5⟩
    rw [hul,List.take_length] at d5
    have kt5:∀ (b:Addr) (vs:List V),H4 b=some (.tup vs)→H5 b=some (.tup vs):=fun b vs e=>o5 _ _ e (lZ e els4 (by intro z; cases z))
    have s05:Same H H5:=fun c o z=>o5 _ _ (s04 _ _ z) (aF z lsH)
    have hG5:=hG4.old o5 lsg lsr
    have hS5:qJ H5 d xs.length ys.length (bx ns xs ys ps) (Behind i j) G ras kvs:=hS.keep (o5 _ _ (s24 _ _ hS.e) lsd) (fun b vs _ e=>o5 _ _ (s24 _ _ e) (aF e hls)) (fun b vs e=>kt5 _ _ (s24 _ _ e))
    clear hS hS4 hG hG4 o5 kt5 d4 e4 s24 s04 s4 s3 e3 els4 hls lsH lsg lsd s2 nl0
    refine ⟨_,rfl,smn 0,fun le hle=>?_⟩
    have s6:=aq hle (.lst [])
    have e6:(upd H5 le (.lst [])) le=some (.lst []):=ak
    generalize upd H5 le (.lst [])=H6 at s6 e6 ⊢
    replace d5:=d5.same s6
    replace s05:=s05.trans s6
    replace hG5:=hG5.same s6
    replace hS5:=hS5.same s6
    replace e5:=s6 _ _ e5
    refine ⟨ls,le,us',rfl,rfl,e5,e6,_,rfl,?_⟩
    clear e6 hle s6
    have hlen:=d5.len
    rw [List.length_map] at hlen
    refine dR ?tt ?tf
    case' tt =>
     intro cT
     have hne:aJ i j xs.length ys.length≠[]:=fun z=>by
      rw [z,List.length_nil] at hlen
      rw [List.eq_nil_of_length_eq_zero hlen] at cT
      cases cT
     clear cT
     refine ⟨_,rfl,ls,rfl,⟨_,SqL.of e5⟩,fun lc hlc=>?_⟩
     refine bF (J:=Itl K ls) (l:=lc) us'.length (fun z σ' H'=>∃ (v0 v1:Option V),σ'=[v0,v1]∧Same H6 H'∧H' lc=some (.lst (((aJ i j xs.length ys.length).take z).map fun s=>V.int (fM (bx ns xs ys ps) G i j s)))) ⟨none,none,rfl,aq hlc _,ak⟩ ?_ ?_
     rotate_left
     ·rintro z σ' H7 hz ⟨v0,v1,rfl,s7,e7⟩
      have hzs:z < (aJ i j xs.length ys.length).length:=by omega
      refine ⟨⟨_,_,SqL.of (s7 _ _ e5),bB hz⟩,?_⟩
      rintro yv H8 ⟨rfl,hyv⟩
      have ey:yv=us'[z]:=Option.some.inj ((hyv _ (SqL.of (s7 _ _ e5))).symm.trans (bB hz))
      have dy:Den H6 us'[z] (soD (bx ns xs ys ps) G i j (aJ i j xs.length ys.length)[z]):=at_of d5 (bB hz) (by rw [List.getElem?_map,bB hzs]; rfl)
      rw [← ey] at dy
      obtain ⟨t,xv,rfl,ht,dx⟩:=Ii dy
      refine ⟨t,_,rfl,SqT.of (s7 _ _ ht),rfl,_,_,rfl,_,_,rfl,rfl,jy (gB ?_)⟩
      refine ⟨_,rfl,_,e7,aH (by rw [List.length_map,List.length_take]; omega),_,_,rfl,aU s7 hlc,?_⟩
      rw [ak,take_one (bB hzs),List.map_append]
      rfl
     rintro σ' H7 ⟨v0,v1,rfl,s7,e7⟩
     rw [hlen,List.take_length] at e7
     refine ⟨⟨_,SqL.of (s7 _ _ e5),Nat.le_refl _⟩,lc,_,(aJ i j xs.length ys.length).map fun s=>D.int (fM (bx ns xs ys ps) G i j s),rfl,⟨SqL.of e7,qm _ _ _,fun a ha b hb=>?_,fun a ha=>?_⟩,fun z=>hne (List.map_eq_nil_iff.mp z),fun ix v dd hv hdd hmin=>?_⟩
     ·obtain ⟨x,_,rfl⟩:=List.mem_map.mp ha
      obtain ⟨y,_,rfl⟩:=List.mem_map.mp hb
      exact trivial
     ·obtain ⟨x,_,rfl⟩:=List.mem_map.mp ha
      exact qI (mZ _) (by decide)
     have h1:∃ s∈aJ i j xs.length ys.length,v=.int (fM (bx ns xs ys ps) G i j s)∧∀ s'∈aJ i j xs.length ys.length,fM (bx ns xs ys ps) G i j s≤fM (bx ns xs ys ps) G i j s':=by
      rw [List.getElem?_map] at hv hdd
      obtain ⟨s,hs,rfl⟩:=Option.map_eq_some_iff.mp hv
      rw [hs] at hdd
      refine ⟨s,List.mem_of_getElem? hs,rfl,fun s' hs'=>?_⟩
      have:=hmin _ (List.mem_map_of_mem hs')
      rw [← Option.some.inj hdd,rB] at this
      exact Int.not_lt.mp (of_decide_eq_false this)
     clear hmin hdd hv
     obtain ⟨s0,hs0,rfl,hmin⟩:=h1
     have hG7:=hG5.same s7
     obtain ⟨ra,row,q0,q1,q2,q4,q5,q3⟩:=hG7.get (i:=i) (j:=j) (by omega) (by omega)
     refine ⟨_,rfl,_,rfl,g,_,_,_,rfl,rfl,SqL.of hG7.e,q1,_,rfl,ra,row,_,j,rfl,rfl,q2,Fw (by omega),?_⟩
     have hra:=List.mem_of_getElem? q0
     have hG8:=hG7.put (fM (bx ns xs ys ps) G i j s0) q0 (j:=j) (by omega)
     rw [← q5] at hG8
     have hS8:qJ (upd H7 ra (.lst (row.set j (.int (fM (bx ns xs ys ps) G i j s0))))) d xs.length ys.length (bx ns xs ys ps) (Behind i j) G ras kvs:=(hS5.same s7).keep (by rw [aM (lZ (s7 _ _ hS5.e) q2 (by intro z; cases z))]; exact s7 _ _ hS5.e) (fun b vs hb e=>by rw [aM (oK hb hra)]; exact e) (iu q2)
     have e58:(upd H7 ra (.lst (row.set j (.int (fM (bx ns xs ys ps) G i j s0))))) ls=some (.lst us'):=by rw [aM (oK lsr hra)]; exact s7 _ _ e5
     have d58:=(d5.same s7).keepT (iu (ws:=row.set j (.int (fM (bx ns xs ys ps) G i j s0))) q2)
     have s08:Same H (upd H7 ra (.lst (row.set j (.int (fM (bx ns xs ys ps) G i j s0))))):=aU (s05.trans s7) (hras ra hra)
     have hv0:aJ i j xs.length ys.length=[]→fM (bx ns xs ys ps) G i j s0=0:=fun z=>absurd z hne
     have hv1:aJ i j xs.length ys.length≠[]→∃ s∈aJ i j xs.length ys.length,fM (bx ns xs ys ps) G i j s0=fM (bx ns xs ys ps) G i j s∧∀ s'∈aJ i j xs.length ys.length,fM (bx ns xs ys ps) G i j s0≤fM (bx ns xs ys ps) G i j s':=fun _=>⟨s0,hs0,rfl,hmin⟩
     clear hmin hne q0 q1 q2 q3 q4 q5 hra hG7 e7 s7 hlc hs0
     generalize upd H7 ra (.lst (row.set j (.int (fM (bx ns xs ys ps) G i j s0))))=H8 at hG8 hS8 e58 d58 s08 ⊢
     generalize fM (bx ns xs ys ps) G i j s0=vv at hG8 hv0 hv1
     clear hG5 hS5 e5 d5 s05
    case' tf =>
     intro cF
     have hnil:aJ i j xs.length ys.length=[]:=by
      cases us' with
      | nil=>exact List.eq_nil_of_length_eq_zero hlen.symm
      | cons _ _=>exact absurd rfl cF
     obtain ⟨vv,hvv⟩:∃ vv:Int,vv=0:=⟨0,rfl⟩
     have hv0:aJ i j xs.length ys.length=[]→vv=0:=fun _=>hvv
     have hv1:aJ i j xs.length ys.length≠[]→∃ s∈aJ i j xs.length ys.length,vv=fM (bx ns xs ys ps) G i j s∧∀ s'∈aJ i j xs.length ys.length,vv≤fM (bx ns xs ys ps) G i j s':=fun z=>absurd hnil z
     have hG8:oW H6 g xs.length ys.length (uh G i j vv) ras:=by
      have e:uh G i j vv=G:=by
       funext a b
       by_cases h:a=i∧b=j
       ·rw [h.1,h.2,iG,hvv,hO.out i j (by omega) (by omega) (fun z=>mH z ⟨rfl,rfl⟩)]
       ·exact gw h
      rw [e]
      exact hG5
     have hS8:=hS5
     have e58:=e5
     have d58:=d5
     have s08:=s05
     clear hG5 hS5 e5 d5 s05 hnil hvv cF
     generalize H6=H8 at hG8 hS8 e58 d58 s08 ⊢
    all_goals
     refine ⟨_,rfl,ls,rfl,⟨_,SqL.of e58⟩,fun lc hlc=>?_⟩
     refine bF (J:=Itl K ls) (l:=lc) us'.length (fun z σ' H'=>∃ (v3 v4:Option V) (us2:List V),σ'=[some (.ref g),some (.int (i:Nat)),some (.int (j:Nat)),v3,v4]∧Same H8 H'∧H' lc=some (.lst us2)∧us2.length≤z∧cQ H' us2 ((((aJ i j xs.length ys.length).take z).filter fun s=>decide (fM (bx ns xs ys ps) G i j s=vv)).map stD)) ⟨none,none,[],rfl,aq hlc _,ak,Nat.le_refl _,trivial⟩ ?_ ?_
     rotate_left
     ·rintro z σ' H9 hz ⟨v3,v4,us2,rfl,s9,e9,hl9,d9⟩
      have hzs:z < (aJ i j xs.length ys.length).length:=by omega
      refine ⟨⟨_,_,SqL.of (s9 _ _ e58),bB hz⟩,?_⟩
      rintro yv Ha ⟨rfl,hyv⟩
      have ey:yv=us'[z]:=Option.some.inj ((hyv _ (SqL.of (s9 _ _ e58))).symm.trans (bB hz))
      have dy:Den H8 us'[z] (soD (bx ns xs ys ps) G i j (aJ i j xs.length ys.length)[z]):=at_of d58 (bB hz) (by rw [List.getElem?_map,bB hzs]; rfl)
      have htk:=take_one (bB hzs)
      rw [htk,List.filter_append,List.map_append]
      clear htk
      rw [← ey] at dy
      generalize (aJ i j xs.length ys.length)[z]=st at dy ⊢
      obtain ⟨t,xv,rfl,ht,dx⟩:=Ii (dy.same s9)
      obtain ⟨ra,row,q0,q1,q2,q4,q5,q3⟩:=(hG8.same s9).get (i:=i) (j:=j) (by omega) (by omega)
      rw [iG] at q3
      refine ⟨t,_,rfl,SqT.of ht,rfl,_,_,rfl,_,_,rfl,rfl,?_⟩
      refine ⟨_,rfl,_,rfl,_,rfl,g,_,_,_,rfl,rfl,SqL.of (hG8.same s9).e,q1,_,rfl,ra,_,_,_,rfl,rfl,SqL.of q2,q3,rfl,_,rfl,?_⟩
      refine dR (fun cc=>?_) (fun cc=>?_)
      ·have hcc:fM (bx ns xs ys ps) G i j st=vv:=V.int.inj (of_decide_eq_true cc)
       rw [List.filter_cons_of_pos (p:=fun s=>decide (fM (bx ns xs ys ps) G i j s=vv)) (decide_eq_true hcc),List.filter_nil]
       refine ⟨_,rfl,us2,e9,aH (by omega),_,_,us2++[xv],rfl,aU s9 hlc,ak,by rw [List.length_append,List.length_singleton]; omega,?_⟩
       exact (d9.keepT (iu e9)).snoc (dx.keepT (iu e9))
      ·have hcc:¬ fM (bx ns xs ys ps) G i j st=vv:=fun z=>cc (decide_eq_true (congrArg V.int z))
       rw [List.filter_cons_of_neg (by rw [decide_eq_true_eq]; exact hcc),List.filter_nil,List.map_nil,List.append_nil]
       exact ⟨_,_,us2,rfl,s9,e9,by omega,d9⟩
     rintro σ' H9 ⟨v3,v4,us2,rfl,s9,e9,hl9,d9⟩
     rw [hlen,List.take_length] at d9
     refine ⟨⟨_,SqL.of (s9 _ _ e58),Nat.le_refl _⟩,?_⟩
     refine ⟨_,rfl,_,rfl,_,rfl,smn 2,fun tk htk=>?_⟩
     have sa:=aq htk (.tup [.int (i:Nat),.int (j:Nat)])
     have ea:(upd H9 tk (.tup [.int (i:Nat),.int (j:Nat)])) tk=some (.tup [.int (i:Nat),.int (j:Nat)]):=ak
     generalize upd H9 tk (.tup [.int (i:Nat),.int (j:Nat)])=Ha at sa ea ⊢
     have s8a:=s9.trans sa
     have hSa:=hS8.same s8a
     have hGa:=hG8.same s8a
     have lcr:lc ∉ ras:=fun z=>by
      obtain ⟨q,hq⟩:=List.mem_iff_getElem?.mp z
      have:=hG8.r q lc hq
      rw [hlc] at this
      cases this
     have dr:d ∉ ras:=fun z=>by
      obtain ⟨q,hq⟩:=List.mem_iff_getElem?.mp z
      have:=hGa.r q d hq
      rw [hSa.e] at this
      cases this
     have kt:∀ (b:Addr) (vs:List V),Ha b=some (.tup vs)→(upd Ha d (.dT (putK kvs (wL i j) (.ref lc)))) b=some (.tup vs):=fun b vs e=>by
      rw [aM (lZ e hSa.e (by intro z; cases z))]
      exact e
     have kl:∀ (b:Addr) (vs:List V),Ha b=some (.lst vs)→(upd Ha d (.dT (putK kvs (wL i j) (.ref lc)))) b=some (.lst vs):=fun b vs e=>by
      rw [aM (lZ e hSa.e (by intro z; cases z))]
      exact e
     refine ⟨d,_,rfl,Dn.t (k:=wL i j) hSa.e ea (aH (by omega)),_,_,_,_,_,uh G i j vv,_,rfl,fun b u z=>?_,hGa.old (b:=d) (fun b u z hb=>by rw [aM hb]; exact z) hgd dr,(hSa.put ak kl kt lcr (kl _ _ (sa _ _ e9)) ((d9.same sa).keepT kt)).mono (fun a b ha hb z=>by unfold Behind; omega),(hO.put hv0 hv1).mono (fun a b ha hb=>by unfold Behind; omega),?_⟩
     ·rw [aM (aF z hdH)]
      exact s8a _ _ (s08 _ _ z)
     ·have:=CJ kvs (wL i j) (.ref lc)
      omega
  ·rintro σ H2 ⟨v8,v9,v10,v11,v12,G,kvs,rfl,s2,hG,hS,hO,hkl⟩
   exact ⟨_,_,_,_,_,_,G,kvs,rfl,s2,hG,hS.mono (fun a b ha hb z=>by omega),hO.mono (fun a b ha hb=>by omega),by omega⟩
 ·rintro σ H1 ⟨v7,v8,v9,v10,v11,v12,G,kvs,rfl,s1,hG,hS,hO,hkl⟩
  refine ⟨_,rfl,_,rfl,smn 2,fun t ht=>?_⟩
  have s2:=aq ht (.tup [.ref g,.ref d])
  exact k t g d G ras kvs _ (s1.trans s2) ak (hG.same s2) ((hS.mono (fun a b ha hb z=>by omega)).same s2) (hO.mono (fun a b ha hb=>⟨fun _=>by omega,fun _=>trivial⟩)) hras
end
theorem wU (m n:Nat):aJ m n m n=[]:=by
 cases e:aJ m n m n with
 | nil=>rfl
 | cons s ss =>
  have:=step_at (i:=m) (j:=n) (m:=m) (n:=n) (s:=s) (by rw [e]; exact .head _)
  omega
theorem Ah {i j m n:Nat} (hi:i≤m) (hj:j≤n) (h:¬ (i=m∧j=n)):aJ i j m n≠[]:=by
 intro z
 unfold aJ at z
 have z:=List.map_eq_nil_iff.mp (List.append_eq_nil_iff.mp z).1
 rw [List.filter_eq_nil_iff] at z
 by_cases h2:j < n
 ·exact z (0,1) (by decide) (decide_eq_true ⟨by show i+0≤m; omega,by show j+1≤n; omega⟩)
 ·exact z (1,0) (by decide) (decide_eq_true ⟨by show i+1≤m; omega,by show j+0≤n; omega⟩)
theorem Ih {m n:Nat} {c:Stp→Int} {G:Grd} (k:fH m n c (fun _ _=>True) G) {i j:Nat} (hi:i≤m) (hj:j≤n) (h:¬ (i=m∧j=n)):tie c G i j m n≠[]:=by
 obtain ⟨s,hs,e,_⟩:=k.cons i j hi hj trivial (Ah hi hj h)
 intro z
 have:s∈tie c G i j m n:=List.mem_filter.mpr ⟨hs,decide_eq_true e.symm⟩
 rw [z] at this
 cases this
theorem wu (i j:Int):iT 1 (.tup [.int i,.int j]):=⟨(fun z=>nomatch z),fun ds e=>by
 injection e with e
 subst e
 refine ⟨by simp,fun d hd=>?_⟩
 simp only [List.mem_cons,List.not_mem_nil,or_false] at hd
 rcases hd with rfl | rfl <;> exact mZ _⟩
theorem Im (i j m n:Int):qH [.int i,.int j] [.int m,.int n]:=⟨trivial,trivial,trivial⟩
theorem Ka {i j m n:Nat} (h:¬ (i=m∧j=n)):eqD (.tup [.int (i:Nat),.int (j:Nat)]) (.tup [.int (m:Nat),.int (n:Nat)])=false:=qe fun q=>h (by
 have q:=D.tup.inj q
 injection q with q1 q2
 injection q2 with q2
 have:=D.int.inj q1
 have:=D.int.inj q2
 omega)
theorem Dv {b g:Addr} {H:Hp} {us:List V} {a:Addr} (p:cj b H) (e:H g=some (.lst us)) (h:us[0]?=some (.ref a)):g≠b:=by
 rintro rfl
 obtain ⟨ns,s,e1,_⟩:=p
 rw [e] at e1
 have e1:=HO.lst.inj (Option.some.inj e1)
 rw [e1,List.getElem?_map] at h
 obtain ⟨x,_,h⟩:=Option.map_eq_some_iff.mp h
 cases h
def zJ:Sp:=fun vs H Q _=>∃ (b l a c qw qp:Addr) (xs ys:List Str) (us:List V) (ps:List (Str × Str)) (ns:List Int),vs=[.ref b,.ref l,.ref qw,.ref qp,.int (xs.length:Nat),.int (ys.length:Nat)]∧cj b H∧nq H l a c qw qp xs ys us ps ns∧xs.length≤30∧ys.length≤30 ∧
 ∀ (t w g:Addr) (G:Grd) (way:List Stp) (wus gus:List V) (H':Hp),cj b H'→eX b H H'→lD H' t w g xs.length ys.length (G 0 0) way (fun i j=>G 0 0 - G i j) wus gus→fH xs.length ys.length (bx ns xs ys ps) (fun _ _=>True) G→pW xs.length ys.length (bx ns xs ys ps) (G 0 0) way (fun i j=>G 0 0 - G i j)→Q (.ref t) H'
theorem Ck {m n:Nat} {c:Stp→Int} {G:Grd} {w:List Stp} (h:fH m n c (fun _ _=>True) G) (ht:mG m n 0 0 w) (hs:(w.map c).sum+G m n=G 0 0):pW m n c (G 0 0) w (fun i j=>G 0 0 - G i j):=by
 have hz:=h.nil m n (Nat.le_refl _) (Nat.le_refl _) trivial (wU m n)
 refine ⟨ht,by omega,by show G 0 0 - G 0 0=0; omega,by show G 0 0 - G m n=G 0 0; omega,fun i j hi hj s hs=>?_⟩
 have hne:aJ i j m n≠[]:=fun z=>by rw [z] at hs; cases hs
 obtain ⟨s0,_,_,hle⟩:=h.cons i j hi hj trivial hne
 have:=hle s hs
 unfold fM at this
 show G 0 0 - G (i+sz1 s) (j+sz2 s) - (G 0 0 - G i j)≤c s
 omega
def Lx (H6:Hp) (b l qw qp g d ld:Addr) (m n:Nat) (c:Stp→Int) (G:Grd) (x:Nat) (σ:L2.St) (H2:Hp):Prop:=∃ (v11:Option V) (i j:Nat) (us:List V) (w:List Stp),x=(m - i)+(n - j)∧i≤m∧j≤n ∧
 σ=[some (.ref b),some (.ref l),some (.ref qw),some (.ref qp),some (.int (m:Nat)),some (.int (n:Nat)),some (.ref g),some (.ref d),some (.ref ld),some (.int (i:Nat)),some (.int (j:Nat)),v11] ∧
 cj b H2∧eX b H6 H2∧H2 ld=some (.lst us)∧cQ H2 us (w.map stD)∧us.length≤i+j∧(∀ w',mG m n i j w'→mG m n 0 0 (w++w'))∧(w.map c).sum+G i j=G 0 0
section
open M01
variable {P:Program} {w:World} {K:PySem.W.Frag} {mg:Str→Option Value} {base:Heap}
theorem gk:aP ["_law_pot", "_law_sides_here", "_law_known_here", "_law_prices_here", "_law_m", "_law_n", "_law_grid", "_law_steps_here", "_law_way", "_law_i", "_law_j", "_law_some"] ["_law_pot", "_law_sides_here", "_law_known_here", "_law_prices_here", "_law_m", "_law_n"] (au jK):=⟨rfl,rfl,rfl,by decide +kernel,rfl,by decide +kernel,by decide +kernel⟩
theorem Fi (h:Has K mg "_law_right" jK ["_law_pot", "_law_sides_here", "_law_known_here", "_law_prices_here", "_law_m", "_law_n"]) (C_left:Cal P w K mg base "_law_left" 3 ["_law_sides_here", "_law_known_here", "_law_prices_here", "_law_m", "_law_n"] Dk) (C_next:Cal P w K mg base "_law_next" 1 ["_law_pot", "_law_many"] jQ) (C_on:Cal P w K mg base "_law_on" 1 ["_law_step_here", "_law_i", "_law_j"] Li) (m_len:mg "len" = none) (m_tuple:mg "tuple" = none):Cal P w K mg base "_law_right" 4 ["_law_pot", "_law_sides_here", "_law_known_here", "_law_prices_here", "_law_m", "_law_n"] zJ:=by
 refine h.mk' gk (fun vs H Q E hs=>?_) (fun f cdv A outer s H vs Q E hr hs=>?_)
 ·obtain ⟨b,l,a,c,qw,qp,xs,ys,us,ps,ns,rfl,_⟩:=hs
  rfl
 obtain ⟨b,l,a,c,qw,qp,xs,ys,us,ps,ns,rfl,hp,hL,hm,hn,k⟩:=hs
 refine ⟨_,(aB (jO (aK C_left hr (by decide) rfl (aj (pv 1) (aj (pv 2) (aj (pv 3) (aj (pv 4) (aj (pv 5) ao)))))) (cR (n:=2) rfl (aL (aD (i:=6) gk.nd rfl (Or.inr rfl)) (aL (aD (i:=7) gk.nd rfl (Or.inl rfl)) bU))))
  (aB (aW (i:=8) gk.nd rfl (Or.inl rfl) (cU ao))
  (aB (jO (bD (aj aA (aj aA ao))) (cR (n:=2) rfl (aL (aD (i:=9) gk.nd rfl (Or.inl rfl)) (aL (aD (i:=10) gk.nd rfl (Or.inl rfl)) bU))))
  (aB (oA PassesOwn.never (aY (Gn hr.units) (bD (aj (pv 9) (aj (pv 10) ao))) (bD (aj (pv 4) (aj (pv 5) ao))) (bG _))
   (aB (aW (i:=11) gk.nd rfl (Or.inl rfl) (Eu (zK hr) (pv 7) (bD (aj (pv 9) (aj (pv 10) ao))) (fun _ _=>rfl)))
  (aB (eN (iw PySem.F.plainAttrs_list PySem.F.slot_list_append PySem.F.type_list_append cH (pv 8) (aj (bA bR (pv 11) (aK C_next hr (by decide) rfl (aj (pv 0) (aj (aG aQ rfl m_len PySem.boot_len (aj (pv 11) ao)) ao))) (fun _ _=>rfl)) ao)))
  (aC (jO (aK C_on hr (by decide) rfl (aj (bA bR (pv 8) (oN jR aA) (fun _ _=>rfl)) (aj (pv 9) (aj (pv 10) ao)))) (cR (n:=2) rfl (aL (aD (i:=9) gk.nd rfl (Or.inl rfl)) (aL (aD (i:=10) gk.nd rfl (Or.inl rfl)) bU))))))))
  (aC (aR (bD (aj (bA bR (bA bR (pv 6) aA (fun _ _=>rfl)) aA (fun _ _=>rfl)) (aj (bV bM rfl m_tuple boot_tuple (aj (pv 8) ao)) (aj (bV bM rfl m_tuple boot_tuple (aj (aZ ["_law_pot", "_law_sides_here", "_law_known_here", "_law_prices_here", "_law_m", "_law_n", "_law_grid", "_law_steps_here", "_law_way", "_law_i", "_law_j", "_law_some"] (au jK) ["_law_grid", "_law_row"] [some 6,none] rfl rfl rfl (cZ (pv 6)) rfl (by decide +kernel) (by decide +kernel) (by decide +kernel) (by decide +kernel) (hg:=fun cl C s H ex pn E=>(aD (i:=1) (by decide +kernel:(["_law_grid", "_law_row"]:List Str).Nodup) rfl (Or.inl rfl))) (ht:=fun cl C s H ex pn E=>bh) (he:=fun cl C s H ex pn E=>(bV (lY (K:=K) rfl) rfl m_tuple boot_tuple (aj (aZ ["_law_grid", "_law_row"] _ ["_law_grid", "_law_cost"] [some 0,none] rfl rfl rfl (Bd (K:=K) rfl (pv 1)) rfl (by decide +kernel) (by decide +kernel) (zT (by decide +kernel)) (by decide +kernel) (hg:=fun cl C s H ex pn E=>(aD (i:=1) (by decide +kernel:(["_law_grid", "_law_cost"]:List Str).Nodup) rfl (Or.inl rfl))) (ht:=fun cl C s H ex pn E=>bh) (he:=fun cl C s H ex pn E=>(aX gF (bA (dG (K:=K) rfl) (bA (dG (K:=K) rfl) (pv 0) aA (fun _ _=>rfl)) aA (fun _ _=>rfl)) (pv 1)))) ao)))) ao)) ao)))))))))),?_⟩
 refine ⟨_,rfl,_,rfl,_,rfl,_,rfl,_,rfl,l,a,c,qw,qp,xs,ys,us,ps,ns,rfl,hL,hm,hn,fun t6 g d G ras kvs H6 s6 e6 hG hS hO hfr=>?_⟩
 refine ⟨t6,_,rfl,SqT.of e6,rfl,_,_,rfl,_,_,rfl,rfl,?_⟩
 generalize hcost:bx ns xs ys ps=cost at hS hO k
 clear hcost hL
 have p6:=hp.same s6
 have nb:b ∉ ras:=fun z=>by
  obtain ⟨_,_,e,_⟩:=hp
  rw [hfr b z] at e
  cases e
 have k:∀ (t w g:Addr) (way:List Stp) (wus gus:List V) (H':Hp),cj b H'→eX b H6 H'→lD H' t w g xs.length ys.length (G 0 0) way (fun i j=>G 0 0 - G i j) wus gus→pW xs.length ys.length cost (G 0 0) way (fun i j=>G 0 0 - G i j)→Q (.ref t) H':=fun t w g way wus gus H' p o hT hSh=>k t w g G way wus gus H' p (eX.trans (.of s6) o) hT hO hSh
 have hgb:g≠b:=by
  have h0:0 < ras.length:=by rw [hG.l]; omega
  exact Dv (a:=ras[0]) p6 hG.e (by rw [List.getElem?_map,List.getElem?_eq_getElem h0]; rfl)
 have hdb:d≠b:=fun z=>by
  obtain ⟨_,_,e,_⟩:=p6
  have:=hS.e
  rw [z,e] at this
  cases this
 clear hfr e6 s6 hp
 generalize hmm:xs.length=m at *
 generalize hnn:ys.length=n at *
 clear hmm hnn
 refine ⟨smn 0,fun ld hld=>gN ?_⟩
 have nlb:ld≠b:=p6.ne hld
 refine ⟨smn 2,fun tz htz=>⟨tz,_,rfl,SqT.of ak,rfl,_,_,rfl,_,_,rfl,rfl,?_⟩⟩
 have s0:=(aq hld (.lst [])).trans (aq htz (.tup [.int 0,.int 0]))
 have e0:(upd (upd H6 ld (.lst [])) tz (.tup [.int 0,.int 0])) ld=some (.lst []):=aq htz _ _ _ ak
 generalize upd (upd H6 ld (.lst [])) tz (.tup [.int 0,.int 0])=H0 at s0 e0
 refine ⟨Lx H6 b l qw qp g d ld m n cost G,⟨_,_,0,0,[],[],rfl,Nat.zero_le _,Nat.zero_le _,rfl,p6.same s0,.of s0,e0,trivial,Nat.zero_le _,fun w' h=>h,Int.zero_add _⟩,?_⟩
 clear e0 s0 htz
 rintro kk σ H1 ⟨v11,i,j,us,w,hk,him,hjn,rfl,p1,o1,e1,d1,hwl,hw,hsum⟩
 refine ⟨_,rfl,_,rfl,smn 2,fun ta hta=>⟨_,rfl,_,rfl,smn 2,fun tb htb=>?_⟩⟩
 have t1:=aq hta (.tup [.int (i:Nat),.int (j:Nat)])
 have t2:=aq htb (.tup [.int (m:Nat),.int (n:Nat)])
 have da:Den (upd H1 ta (.tup [.int (i:Nat),.int (j:Nat)])) (.ref ta) (.tup [.int (i:Nat),.int (j:Nat)]):=⟨ta,_,rfl,ak,rfl,rfl,trivial⟩
 generalize upd H1 ta (.tup [.int (i:Nat),.int (j:Nat)])=Ha at t1 t2 da
 have db:Den (upd Ha tb (.tup [.int (m:Nat),.int (n:Nat)])) (.ref tb) (.tup [.int (m:Nat),.int (n:Nat)]):=⟨tb,_,rfl,ak,rfl,rfl,trivial⟩
 have da2:=da.same t2
 have t:=t1.trans t2
 generalize upd Ha tb (.tup [.int (m:Nat),.int (n:Nat)])=H2 at t2 t db da2
 refine ⟨_,_,0,da2,db,wu _ _,wu _ _,by decide,Im _ _ _ _,_,rfl,?_⟩
 have p2:=p1.same t
 have e2:=t _ _ e1
 have d2:=d1.same t
 have o2:eX b H6 H2:=o1.trans (.of t)
 have hul:=d2.len
 rw [List.length_map] at hul
 clear da db da2 t1 t2 t hta htb p1 o1 e1 d1
 refine dR (fun z=>?_) (fun z=>?_)
 ·have hne:¬ (i=m∧j=n):=fun h=>by
   rw [h.1,h.2,j5] at z
   exact absurd z (by decide)
  refine ⟨fun σ' H'=>∃ m',m' < kk∧Lx H6 b l qw qp g d ld m n cost G m' σ' H',fun _ _ q=>q,?_⟩
  have htn:=Ih hO him hjn hne
  refine ⟨_,rfl,_,rfl,_,rfl,smn 2,fun tk htk=>?_⟩
  have sc:=aq htk (.tup [.int (i:Nat),.int (j:Nat)])
  have ec:(upd H2 tk (.tup [.int (i:Nat),.int (j:Nat)])) tk=some (.tup [.int (i:Nat),.int (j:Nat)]):=ak
  generalize upd H2 tk (.tup [.int (i:Nat),.int (j:Nat)])=H3 at sc ec ⊢
  obtain ⟨l3,us3,v1,_,e3,d3⟩:=hS.v i j him hjn trivial
  have hu3:=d3.len
  rw [List.length_map] at hu3
  have hpos:0 < (tie cost G i j m n).length:=List.length_pos_iff.mpr htn
  have h8:(tie cost G i j m n).length≤8:=Nat.le_trans (List.length_filter_le _ _) (jf i j m n)
  have n3b:l3≠b:=by
   have h0:0 < us3.length:=by omega
   obtain ⟨q,_,eq,_⟩:=bO (at_of d3 (bB h0) (by rw [List.getElem?_map,bB hpos]; rfl:((tie cost G i j m n).map stD)[0]?=some (.tup _)))
   exact Dv (a:=q) p6 e3 (by rw [bB h0,eq])
  have o3:eX b H6 H3:=o2.trans (.of sc)
  have e3:=o3 _ _ e3 n3b
  have d3:=d3.keepT (o3.tup p6)
  have hdg:vM H3 d (.ref tk) (some (.ref l3)):=by rw [← v1]; exact vM.t (o3 _ _ hS.e hdb) ec
  have p3:=p2.same sc
  refine ⟨d,_,rfl,hdg,gN ?_⟩
  refine ⟨_,rfl,.inl ⟨rfl,_,SqL.of (sc _ _ e2)⟩,_,rfl,_,rfl,_,rfl,l3,_,rfl,.inl (SqL.of e3),b,_,rfl,p3,by omega,by omega,fun r H4 p4 o4 r0 r1=>?_⟩
  have e4:=o4 _ _ e3 n3b
  have hr:r.toNat < us3.length:=by omega
  have er:((r.toNat:Nat):Int)=r:=by omega
  have hat:atI us3 r=some us3[r.toNat]:=by
   have:=bw (bB hr)
   rwa [er] at this
  have hrs:r.toNat < (tie cost G i j m n).length:=by omega
  have kt4:∀ (c:Addr) (vs:List V),H3 c=some (.tup vs)→H4 c=some (.tup vs):=o4.tup p3
  have dc:Den H3 us3[r.toNat] (stD (tie cost G i j m n)[r.toNat]):=at_of d3 (bB hr) (by rw [List.getElem?_map,bB hrs]; rfl)
  obtain ⟨gc,gt⟩:=List.mem_filter.mp (List.getElem_mem hrs)
  generalize us3[r.toNat]=vc at hat dc
  generalize (tie cost G i j m n)[r.toNat]=sc1 at dc gc gt
  have gt:=of_decide_eq_true gt
  unfold fM at gt
  obtain ⟨g1,g2,g3⟩:=step_at gc
  have gl:=(dz gc).2.1
  have dc4:=dc.keepT kt4
  have el4:H4 ld=some (.lst us):=o4 _ _ (sc _ _ e2) nlb
  have d4:cQ H4 us (w.map stD):=(d2.same sc).keepT kt4
  refine ⟨l3,_,_,_,rfl,rfl,SqL.of e4,hat,ld,_,_,rfl,rfl,el4,aH (by omega),?_⟩
  have e5:(upd H4 ld (.lst (us++[vc]))) ld=some (.lst (us++[vc])):=ak
  have kt5:=iu (ws:=us++[vc]) el4
  have p5:cj b (upd H4 ld (.lst (us++[vc]))):=Hi p4 nlb
  have o5:eX b H6 (upd H4 ld (.lst (us++[vc]))):=fun c o q h=>by
   rw [aM (aF q hld)]
   exact o4 _ _ (o3 c o q h) h
  have d5:=fX (d4.keepT kt5) (dc4.keepT kt5)
  have dc5:=dc4.keepT kt5
  generalize upd H4 ld (.lst (us++[vc]))=H5 at e5 p5 o5 d5 dc5
  refine ⟨_,rfl,_,rfl,ld,_,_,_,rfl,rfl,SqL.of e5,Bb us vc,_,rfl,_,rfl,vc,sc1,_,_,rfl,dc5,gl,fun q6 H7 s7 e7=>?_⟩
  rw [← Int.natCast_add,← Int.natCast_add] at e7
  refine ⟨q6,_,rfl,SqT.of e7,rfl,_,_,rfl,_,_,rfl,rfl,?_⟩
  refine ⟨_,?_,_,i+sz1 sc1,j+sz2 sc1,us++[vc],w++[sc1],rfl,g1,g2,rfl,p5.same s7,o5.trans (.of s7),s7 _ _ e5,d5.same s7,by rw [List.length_append,List.length_singleton]; omega,fun w' h=>?_,?_⟩
  ·omega
  ·rw [List.append_assoc]
   exact hw _ ⟨gc,h⟩
  ·rw [List.map_append,List.sum_append,List.map_cons,List.map_nil,List.sum_cons,List.sum_nil]
   omega
 ·have heq:i=m∧j=n:=by
   by_cases h:i=m∧j=n
   ·exact h
   ·rw [Ka h] at z
    exact absurd rfl z
  have hth:=hw [] heq
  rw [List.append_nil] at hth
  rw [heq.1,heq.2] at hsum
  have hSh:=Ck hO hth hsum
  have hG2:=hG.old o2 hgb nb
  clear hG hS hO z hw hsum hk
  obtain ⟨ra,row,_,u1,u2,_,_,u3⟩:=hG2.get (i:=0) (j:=0) (Nat.zero_le _) (Nat.zero_le _)
  refine ⟨_,rfl,g,_,_,_,rfl,rfl,SqL.of hG2.e,u1,ra,_,_,_,rfl,rfl,SqL.of u2,u3,?_⟩
  refine ⟨_,rfl,ld,us,rfl,.inl ⟨SqL.of e2,fun td htd=>?_⟩⟩
  have s3:=aq htd (.tup us)
  have e3:(upd H2 td (.tup us)) td=some (.tup us):=ak
  generalize upd H2 td (.tup us)=H3 at s3 e3 ⊢
  have hG3:=hG2.same s3
  have u1:=s3 _ _ hG2.e
  refine ⟨_,rfl,g,rfl,⟨_,SqL.of hG3.e⟩,fun lo hlo=>?_⟩
  refine bF (J:=Itl K g) (l:=lo) ras.length (fun x σ' H'=>∃ (v:Option V) (gus:List V),σ'=[some (.ref g),v]∧Same H3 H'∧H' lo=some (.lst gus)∧gus.length=x∧∀ (y:Nat) (u:V),gus[y]?=some u→∃ a:Addr,u=.ref a∧H' a=some (.tup (((List.range (n+1)).map fun j=>G 0 0 - G y j).map V.int))) ⟨none,[],rfl,aq hlo _,ak,rfl,fun y u h=>by cases h⟩ ?_ ?_
  ·rintro σ' H4 ⟨v,gus,rfl,s4,e4,hgl,hgr⟩
   refine ⟨⟨_,SqL.of (s4 _ _ hG3.e),by rw [List.length_map]; exact Nat.le_refl _⟩,lo,_,rfl,.inl ⟨SqL.of e4,fun tq htq=>⟨smn 3,fun t ht=>?_⟩⟩⟩
   have s5:=aq htq (.tup gus)
   have e5:(upd H4 tq (.tup gus)) tq=some (.tup gus):=ak
   generalize upd H4 tq (.tup gus)=H5 at s5 e5 ht ⊢
   have st:=aq ht (.tup [.int (G 0 0),.ref td,.ref tq])
   have e6:(upd H5 t (.tup [.int (G 0 0),.ref td,.ref tq])) t=some (.tup [.int (G 0 0),.ref td,.ref tq]):=ak
   have s35:=s4.trans s5
   have s36:=s35.trans st
   have hsm:=eY hth (Nat.zero_le _) (Nat.zero_le _)
   refine k t td tq w us gus _ (((p2.same s3).same s36)) (o2.trans (.of (s3.trans s36))) ⟨e6,s36 _ _ e3,(d2.same s3).same s36,fun s hs=>⟨(hsm.2 s hs).2.1,fun p hp=>⟨Nat.le_trans ((hsm.2 s hs).2.2 p hp).la (by decide),Nat.le_trans ((hsm.2 s hs).2.2 p hp).lb (by decide)⟩⟩,⟨st _ _ e5,by rw [hgl,hG3.l],fun y u hu=>?_⟩,by omega⟩ hSh
   obtain ⟨a',h1,h2⟩:=hgr y u hu
   exact ⟨a',h1,(s5.trans st) _ _ h2⟩
  ·rintro x σ' H4 hx ⟨v,gus,rfl,s4,e4,hgl,hgr⟩
   have hat:(ras.map V.ref)[x]?=some (.ref ras[x]):=by rw [List.getElem?_map,bB hx]; rfl
   refine ⟨⟨_,_,SqL.of (s4 _ _ hG3.e),hat⟩,?_⟩
   rintro y H5 ⟨rfl,hy⟩
   have ey:y=.ref ras[x]:=Option.some.inj ((hy _ (SqL.of (s4 _ _ hG3.e))).symm.trans hat)
   have hrow:=hG3.r x _ (bB hx)
   generalize ras[x]=rx at ey hrow
   subst ey
   have hG4:=hG3.same s4
   have hrow4:=s4 _ _ hrow
   refine gN (jy (gB ⟨_,rfl,rx,rfl,⟨_,SqL.of hrow4⟩,fun li hli=>?_⟩))
   refine bF (J:=Itl K rx) (l:=li) (n+1) (fun z σ'' H''=>∃ v:Option V,σ''=[some (.ref g),v]∧Same H5 H''∧H'' li=some (.lst (((List.range z).map fun j=>G 0 0 - G x j).map V.int))) ⟨none,rfl,aq hli _,ak⟩ ?_ ?_
   ·rintro σ'' H6' ⟨v',rfl,s6',e6'⟩
    refine ⟨⟨_,SqL.of (s6' _ _ hrow4),by rw [List.length_map,List.length_map,List.length_range]; exact Nat.le_refl _⟩,li,_,rfl,.inl ⟨SqL.of e6',fun tr htr=>?_⟩⟩
    have s7:=aq htr (.tup (((List.range (n+1)).map fun j=>G 0 0 - G x j).map V.int))
    have e7:(upd H6' tr (.tup (((List.range (n+1)).map fun j=>G 0 0 - G x j).map V.int))) tr=some (.tup (((List.range (n+1)).map fun j=>G 0 0 - G x j).map V.int)):=ak
    generalize upd H6' tr (.tup (((List.range (n+1)).map fun j=>G 0 0 - G x j).map V.int))=H7 at s7 e7 ⊢
    have s47:=s6'.trans s7
    have e47:=s47 _ _ e4
    have hx':=hx
    rw [hG3.l] at hx'
    refine ⟨_,e47,aH (by omega),_,gus++[.ref tr],rfl,aU (s4.trans s47) hlo,ak,by rw [List.length_append,hgl]; rfl,fun y u hu=>?_⟩
    have kt:=iu (ws:=gus++[V.ref tr]) e47
    rcases Nat.lt_or_ge y gus.length with hy | hy
    ·rw [List.getElem?_append_left hy] at hu
     obtain ⟨a',h1,h2⟩:=hgr y u hu
     exact ⟨a',h1,kt _ _ (s47 _ _ h2)⟩
    ·rw [List.getElem?_append_right hy] at hu
     have hy0:y - gus.length=0:=by
      have:=(List.getElem?_eq_some_iff.mp hu).1
      rw [List.length_singleton] at this
      omega
     rw [hy0] at hu
     have hyx:y=x:=by omega
     rw [hyx]
     exact ⟨tr,(Option.some.inj hu).symm,kt _ _ e7⟩
   ·rintro z σ'' H6' hz ⟨v',rfl,s6',e6'⟩
    have hat:(((List.range (n+1)).map (G x)).map V.int)[z]?=some (.int (G x z)):=wJ (by omega)
    refine ⟨⟨_,_,SqL.of (s6' _ _ hrow4),hat⟩,?_⟩
    rintro y H7 ⟨rfl,hy⟩
    have ey:y=.int (G x z):=Option.some.inj ((hy _ (SqL.of (s6' _ _ hrow4))).symm.trans hat)
    subst ey
    have hG7:=hG4.same s6'
    obtain ⟨ra,row,_,u1,u2,_,_,u3⟩:=hG7.get (i:=0) (j:=0) (Nat.zero_le _) (Nat.zero_le _)
    refine gN (jy (gB ⟨_,rfl,g,_,_,_,rfl,rfl,SqL.of hG7.e,u1,ra,_,_,_,rfl,rfl,SqL.of u2,u3,_,rfl,_,_,rfl,rfl,?_⟩))
    refine ⟨_,e6',aH (by rw [List.length_map,List.length_map,List.length_range]; omega),_,rfl,aU s6' hli,?_⟩
    rw [ak,List.range_succ,List.map_append,List.map_append]
    rfl
end
theorem Bu {xs:List Str} {r:Nat} (h:r≤xs.length):jl (xs.map V.str) none (some (r:Int))=(xs.take r).map V.str:=by
 unfold jl
 rw [HT.mU,HT.iV,List.length_map,Nat.min_eq_left h,List.map_take]
 simp
theorem Bw {xs:List Str} {r:Nat} (h:r≤xs.length):jl (xs.map V.str) (some (r:Int)) none=(xs.drop r).map V.str:=by
 unfold jl
 rw [HT.mU,HT.iV,List.length_map,Nat.min_eq_left h,List.map_drop]
 exact List.take_of_length_le (by rw [List.length_drop,List.length_map]; omega)
structure jB (H:Hp) (q1 q2 qw qp:Addr) (xs ys:List Str) (us:List V) (ps:List (Str × Str)) (ns:List Int):Prop where
 e1:H q1=some (.tup (xs.map V.str))
 e2:H q2=some (.tup (ys.map V.str))
 l1:xs.length≤5
 l2:ys.length≤5
 a1:∀ x∈xs,Asc 1000 x
 a2:∀ x∈ys,Asc 1000 x
 ew:H qw=some (.tup us)
 ul:us.length≤100
 P:PrT H us ps
 ep:H qp=some (.tup (ns.map V.int))
 n5:ns.length=5
 pb:∀ x∈ns,0≤x∧x≤1000000
theorem jB.same {H H':Hp} {q1 q2 qw qp:Addr} {xs ys:List Str} {us:List V} {ps:List (Str × Str)} {ns:List Int} (h:jB H q1 q2 qw qp xs ys us ps ns) (s:Same H H'):jB H' q1 q2 qw qp xs ys us ps ns:=⟨s _ _ h.e1,s _ _ h.e2,h.l1,h.l2,h.a1,h.a2,s _ _ h.ew,h.ul,h.P.same s,s _ _ h.ep,h.n5,h.pb⟩
def wF:Sp:=fun vs H Q _=>∃ (b:Addr) (m:Nat),vs=[.ref b,.int (m:Nat)]∧cj b H∧m≤5 ∧
 ∀ (t q1 q2 qw qp:Addr) (xs ys:List Str) (us:List V) (ps:List (Str × Str)) (ns:List Int) (H':Hp),cj b H'→H' t=some (.tup [.ref q1,.ref q2,.ref qw,.ref qp])→jB H' q1 q2 qw qp xs ys us ps ns→Q (.ref t) H'
section
open M01
variable {P:Program} {w:World} {K:PySem.W.Frag} {mg:Str→Option Value} {base:Heap}
theorem lF:aP ["_law_pot", "_law_most", "_law_lefts", "_law_rights", "_law_ones", "_law_others"] ["_law_pot", "_law_most"] (au lB):=⟨rfl,rfl,rfl,by decide +kernel,rfl,by decide +kernel,by decide +kernel⟩
theorem Fj (h:Has K mg "_law_drawn" lB ["_law_pot", "_law_most"]) (C_list:Cal P w K mg base "_law_list" 2 ["_law_pot"] CT) (C_next:Cal P w K mg base "_law_next" 1 ["_law_pot", "_law_many"] jQ) (C_texts:Cal P w K mg base "_law_texts" 3 ["_law_pot", "_law_cores_here", "_law_many"] xJ) (C_prices:Cal P w K mg base "_law_prices" 2 ["_law_pot"] uc) (C_known:Cal P w K mg base "_law_known" 2 ["_law_pot", "_law_lefts", "_law_rights"] yw):Cal P w K mg base "_law_drawn" 4 ["_law_pot", "_law_most"] wF:=by
 refine h.mk' lF (fun vs H Q E hs=>?_) (fun f cdv A outer s H vs Q E hr hs=>?_)
 ·obtain ⟨b,m,rfl,_⟩:=hs
  rfl
 obtain ⟨b,m,rfl,p0,hm,k⟩:=hs
 refine ⟨_,(aB (HF (i:=2) (j:=3) rfl lF.nd rfl rfl (by decide) rfl rfl (aj (aK C_list hr (by decide) rfl (aj (pv 0) ao)) (aj (aK C_list hr (by decide) rfl (aj (pv 0) ao)) ao)) rfl)
  (aB (dW (aY gG (aK C_next hr (by decide) rfl (aj (pv 0) (aj aA ao))) aA (bG _))
   (aC (aW (i:=3) lF.nd rfl (Or.inl rfl) (aX DY (eV nM (pv 2) (gq aA) fY) (eV nM (pv 3) fY (gq aA)))))
   bK)
  (aB (aW (i:=4) lF.nd rfl (Or.inl rfl) (aK C_texts hr (by decide) rfl (aj (pv 0) (aj (pv 2) (aj (aK C_next hr (by decide) rfl (aj (pv 0) (aj (aX bI (pv 1) aA) ao))) ao)))))
  (aB (aW (i:=5) lF.nd rfl (Or.inl rfl) (aK C_texts hr (by decide) rfl (aj (pv 0) (aj (pv 3) (aj (aK C_next hr (by decide) rfl (aj (pv 0) (aj (aX bI (pv 1) aA) ao))) ao)))))
  (aC (aR (bD (aj (pv 4) (aj (pv 5) (aj (aK C_known hr (by decide) rfl (aj (pv 0) (aj (pv 2) (aj (pv 3) ao)))) (aj (aK C_prices hr (by decide) rfl (aj (pv 0) ao)) ao))))))))))),?_⟩
 refine ⟨_,rfl,b,rfl,p0,fun l3 c3 H3 p3 o3 n3 N3=>⟨_,rfl,b,rfl,p3,fun l4 c4 H4 p4 o4 n4 N4=>⟨_,_,rfl,?_⟩⟩⟩
 replace N3:=N3.old o4 n3
 refine ⟨_,rfl,b,4,rfl,p4,by decide,by decide,fun r H5 p5 o5 _ _=>?_⟩
 replace N3:=N3.old o5 n3
 replace N4:=N4.old o5 n4
 refine ⟨rfl,_,rfl,?_⟩
 clear p0 p3 p4 o3 o4 o5
 refine dR ?tt ?tf
 case' tt =>
  intro _
  refine ⟨_,rfl,_,rfl,l3,_,rfl,SqL.of N3.e,fun la hla=>?_⟩
  have na:la≠b:=p5.ne hla
  have sa:=aq hla (.lst (jl (c3.map V.str) (some 4) none))
  have ea:(upd H5 la (.lst (jl (c3.map V.str) (some 4) none))) la=some (.lst (jl (c3.map V.str) (some 4) none)):=ak
  generalize upd H5 la (.lst (jl (c3.map V.str) (some 4) none))=Ha at sa ea ⊢
  replace p5:=p5.same sa
  replace N3:=N3.old (.of sa) n3
  replace N4:=N4.old (.of sa) n4
  rw [show (4:Int)=((4:Nat):Int) from rfl,Bw (by rw [N3.n]; decide)] at ea
  refine ⟨_,rfl,_,rfl,l4,_,rfl,SqL.of N4.e,fun lb hlb=>?_⟩
  have sb:=aq hlb (.lst (jl (c4.map V.str) none (some 4)))
  have eb:(upd Ha lb (.lst (jl (c4.map V.str) none (some 4)))) lb=some (.lst (jl (c4.map V.str) none (some 4))):=ak
  generalize upd Ha lb (.lst (jl (c4.map V.str) none (some 4)))=Hb at sb eb ⊢
  replace p5:=p5.same sb
  replace N3:=N3.old (.of sb) n3
  rw [show (4:Int)=((4:Nat):Int) from rfl,Bu (by rw [N4.n]; decide)] at eb
  refine ⟨la,lb,_,_,rfl,rfl,sb _ _ ea,eb,small (by rw [List.length_map,List.length_map,List.length_drop,List.length_take,N3.n,N4.n]; decide),fun lc hlc=>gN ?_⟩
  have nc:lc≠b:=p5.ne hlc
  have sc:=aq hlc (.lst ((c3.drop 4).map V.str++(c4.take 4).map V.str))
  have N5:Ce (upd Hb lc (.lst ((c3.drop 4).map V.str++(c4.take 4).map V.str))) lc (c3.drop 4++c4.take 4):=⟨by rw [ak,List.map_append],by rw [List.length_append,List.length_drop,List.length_take,N3.n,N4.n]; decide,fun x hx=>by
   rcases List.mem_append.mp hx with h | h
   ·exact N3.a x (List.mem_of_mem_drop h)
   ·exact N4.a x (List.mem_of_mem_take h)⟩
  generalize upd Hb lc (.lst ((c3.drop 4).map V.str++(c4.take 4).map V.str))=H6 at sc N5 ⊢
  generalize c3.drop 4++c4.take 4=c5 at N5
  replace p5:=p5.same sc
  replace N3:=N3.old (.of sc) n3
  clear sa sb sc ea eb hla hlb hlc na N4 n4
 case' tf =>
  intro _
  have N5:=N4
  have nc:=n4
  clear N4 n4
  obtain ⟨H6,hH6⟩:∃ H6,H5=H6:=⟨_,rfl⟩
  rw [hH6] at p5 N3 N5 ⊢
  clear hH6
  obtain ⟨lc,hlc⟩:∃ lc,l4=lc:=⟨_,rfl⟩
  rw [hlc] at nc N5 ⊢
  clear hlc
  obtain ⟨c5,hc5⟩:∃ c5,c4=c5:=⟨_,rfl⟩
  rw [hc5] at N5
  clear hc5
 all_goals
  refine ⟨_,rfl,_,rfl,_,rfl,_,rfl,_,_,rfl,rfl,b,_,rfl,p5,by omega,by omega,fun r H7 p7 o7 r0 r1=>?_⟩
  obtain ⟨r,rfl⟩:=Int.eq_ofNat_of_zero_le r0
  refine ⟨b,l3,c3,r,rfl,p7,n3,N3.old o7 n3,by omega,fun q7 xs H8 p8 o8 e8 hx ax=>gN ?_⟩
  replace N3:=(N3.old o7 n3).old o8 n3
  replace N5:=(N5.old o7 nc).old o8 nc
  refine ⟨_,rfl,_,rfl,_,rfl,_,rfl,_,_,rfl,rfl,b,_,rfl,p8,by omega,by omega,fun r' H9 p9 o9 r0' r1'=>?_⟩
  obtain ⟨r',rfl⟩:=Int.eq_ofNat_of_zero_le r0'
  refine ⟨b,lc,c5,r',rfl,p9,nc,N5.old o9 nc,by omega,fun q8 ys Ha pa oa ea hy ay=>gN ?_⟩
  replace N3:=(N3.old o9 n3).old oa n3
  replace N5:=(N5.old o9 nc).old oa nc
  replace e8:=oa.tup p9 _ _ (o9.tup p8 _ _ e8)
  refine ⟨_,rfl,_,rfl,_,rfl,_,rfl,_,rfl,b,l3,lc,c3,c5,rfl,pa,n3,nc,N3,N5,fun qw us ps Hb pb ob ew hu hP=>⟨_,rfl,b,rfl,pb,fun qp ns Hc pc oc ep hns hpb=>⟨smn 4,fun t ht=>?_⟩⟩⟩
  have st:=aq ht (.tup [.ref q7,.ref q8,.ref qw,.ref qp])
  exact k t q7 q8 qw qp xs ys us ps ns _ (pc.same st) ak (jB.same ⟨oc.tup pb _ _ (ob.tup pa _ _ e8),oc.tup pb _ _ (ob.tup pa _ _ ea),by omega,by omega,ax,ay,oc.tup pb _ _ ew,hu,hP.keepT (oc.tup pb),ep,hns,hpb⟩ st)
end
def Fo (t t':Th):Prop:=(∃ ts,t=.tup ts∧(t'=.non∨t'=.lst∨(∃ x,t'=.str x)∨t'=.int 7∨t'=.tup (ts++[.non])∨t'=.tup (ts++[.int 0])∨t'=.bl true∨(ts≠[]∧t'=.tup (ts.take (ts.length - 1))))) ∨
 ((∃ i,t=.int i)∧(t'=.non∨(∃ b,t'=.bl b)∨(∃ x,t'=.str x)∨t'=.tup [t]∨t'=.lst))
def Spo:Nat→Th→Th→Prop
 | 0,t,t'=>Fo t t'
 | n+1,t,t'=>Fo t t'∨∃ (ts:List Th) (i:Nat) (x x':Th),t=.tup ts∧ts[i]?=some x∧Spo n x x'∧t'=.tup (ts.take i++[x']++ts.drop (i+1))
theorem Spo.of0 {n:Nat} {t t':Th} (h:Fo t t'):Spo n t t':=by
 cases n with
 | zero=>exact h
 | succ n=>exact .inl h
def Lf:Nat→Th→Prop
 | n+1,.tup ts=>ts.length≤800∧∀ t∈ts,Lf n t
 | _,.int i=>i.natAbs≤1000000000000
 | _,_=>False
theorem Lf.cases {k:Nat} {t:Th} (h:Lf k t):(∃ i,t=.int i∧i.natAbs≤1000000000000)∨∃ (n:Nat) (ts:List Th),k=n+1∧t=.tup ts∧ts.length≤800∧∀ t∈ts,Lf n t:=by
 cases t with
 | int i=>cases k <;> exact .inl ⟨i,rfl,h⟩
 | tup ts =>
  cases k with
  | zero=>exact h.elim
  | succ n=>exact .inr ⟨n,ts,rfl,rfl,h⟩
 | _=>cases k <;> exact h.elim
theorem xQ {i:Int} (h:i.natAbs≤1000000000000):i.natAbs.log2 < 1920:=by
 by_cases z:i.natAbs=0
 ·rw [z]
  decide
 ·exact (Nat.log2_lt z).mpr (Nat.lt_of_le_of_lt h (by decide +kernel))
theorem Nq {xs:List V} {r:Nat} (h:r≤xs.length):jl xs none (some (r:Int))=xs.take r:=by
 unfold jl
 rw [HT.mU,HT.iV,Nat.min_eq_left h]
 simp
theorem Nu {xs:List V} {r:Nat} (h:r≤xs.length):jl xs (some (r:Int)) none=xs.drop r:=by
 unfold jl
 rw [HT.mU,HT.iV,Nat.min_eq_left h]
 exact List.take_of_length_le (by rw [List.length_drop]; omega)
theorem MK {xs:List V} (h:xs≠[]):jl xs none (some (-1))=xs.take (xs.length - 1):=by
 have hl:=List.length_pos_iff.mpr h
 unfold jl
 have e:HT.sIx xs.length xs.length (some (-1))=xs.length - 1:=by
  show (if (-1:Int) < 0 then ((-1:Int)+(xs.length:Int)).toNat else min (-1:Int).toNat xs.length)=_
  rw [if_pos (by omega)]
  omega
 rw [e,HT.iV]
 simp
def Jx:Nat→Sp
 | 0=>fun _ _ _ _=>False
 | n+1=>fun vs H Q _=>∃ (b:Addr) (v:V) (t:Th) (k:Nat),vs=[.ref b,v,.int (n:Nat)]∧cj b H∧TgV [b] H v t∧Lf k t∧∀ (v':V) (t':Th) (H':Hp),cj b H'→eX b H H'→TgV [b] H' v' t'→Spo n t t'→Q v' H'
theorem Df {b:Addr} {H H':Hp} (p:cj b H) (o:eX b H H') {t:Th} {v:V} (h:TgV [b] H v t):TgV [b] H' v t:=h.keep (o.tup p) fun c u hc e=>o c u e fun z=>hc (by rw [z]; exact List.mem_singleton_self _)
theorem wN {b:Addr} {H H':Hp} (p:cj b H) (o:eX b H H') {ts:List Th} {vs:List V} (h:TgL [b] H vs ts):TgL [b] H' vs ts:=h.keep (o.tup p) fun c u hc e=>o c u e fun z=>hc (by rw [z]; exact List.mem_singleton_self _)
theorem JZ {B:List Addr} {H:Hp} {v:V} {t:Th} (h:TgV B H v t):TgL B H [v] [t]:=⟨h,trivial⟩
theorem at7 {xs:List V} {r:Int} (h0:0≤r) (h1:r < (xs.length:Nat)):∃ v,atI xs r=some v∧v∈xs:=by
 obtain ⟨k,rfl⟩:=Int.eq_ofNat_of_zero_le h0
 have hk:k < xs.length:=by omega
 exact ⟨xs[k],bw (bB hk),List.getElem_mem hk⟩
theorem Mj {t u:TS} {D:Ends} {σ:L2.St} {H:Hp} (P:L2.St→Hp→Prop) (h1:∀ N:L2.St→Hp→Prop,(∀ σ' H',P σ' H'→N σ' H')→t { D with nx:=N } σ H) (h2:∀ σ' H',P σ' H'→u D σ' H'):KH t u D σ H:=h1 (u D) h2
section
variable {P:Program} {w:World} {K:PySem.W.Frag} {mg:Str→Option Value} {base:Heap}
theorem kJ:aP ["_law_pot", "_law_thing", "_law_deep", "_law_at", "_law_way"] ["_law_pot", "_law_thing", "_law_deep"] (au iJ):=⟨rfl,rfl,rfl,by decide +kernel,rfl,by decide +kernel,by decide +kernel⟩
theorem sZ (h:Has K mg "_law_spoilt" iJ ["_law_pot", "_law_thing", "_law_deep"]) (C_next:Cal P w K mg base "_law_next" 1 ["_law_pot", "_law_many"] jQ) (m_isinstance:mg "isinstance" = none) (m_tuple:mg "tuple" = none) (m_len:mg "len" = none) (m_list:mg "list" = none) (m_str:mg "str" = none) :
  ∀ n:Nat,Cal P w K mg base "_law_spoilt" (n+1) ["_law_pot", "_law_thing", "_law_deep"] (Jx n)
 | 0=>h.mk' kJ (fun _ _ _ _ hs=>hs.elim) (fun _ _ _ _ _ _ _ _ _ _ hs=>hs.elim)
 | n+1=>by
  have C_spoilt:=sZ h C_next m_isinstance m_tuple m_len m_list m_str n
  refine h.mk' kJ (fun vs H Q E hs=>?_) (fun f cdv A outer s H vs Q E hr hs=>?_)
  ·obtain ⟨b,v,t,k,rfl,_⟩:=hs
   rfl
  obtain ⟨b,v,t,kd,rfl,hp,hv,hL,k⟩:=hs
  refine ⟨_,(aB (dW (PW.pt (iy (iZ (aG bY rfl m_isinstance boot_isinstance (aj (pv 1) (aj (gJ (v:=.ty "tuple") rfl m_tuple boot_tuple rfl) ao)))) (iy (aY (yX hr.units0) (pv 1) (bD ao) (bG _)) (iy (aY BK (pv 2) aA (bG _)) (iI (aY BK (aK C_next hr (by omega) rfl (aj (pv 0) (aj aA ao))) aA (bG _)))))))
   (aB (aW (i:=3) kJ.nd rfl (Or.inl rfl) (aK C_next hr (by omega) rfl (aj (pv 0) (aj (aG aQ rfl m_len PySem.boot_len (aj (pv 1) ao)) ao))))
  (aC (aR (aX je (aX je (eV rO (pv 1) fY (gq (pv 3))) (bD (aj (aK C_spoilt hr (by omega) rfl (aj (pv 0) (aj (bA bH (pv 1) (pv 3) (fun _ _=>rfl)) (aj (aX gF (pv 2) aA) ao)))) ao))) (eV rO (pv 1) (gq (aX bI (pv 3) aA)) fY)))))
   bK)
  (aB (aW (i:=4) kJ.nd rfl (Or.inl rfl) (aK C_next hr (by omega) rfl (aj (pv 0) (aj aA ao))))
  (aB (dW (iZ (aG bY rfl m_isinstance boot_isinstance (aj (pv 1) (aj (gJ (v:=.ty "tuple") rfl m_tuple boot_tuple rfl) ao))))
   (aB (dW (PW.pt (iy (aY gG (pv 4) aA (bG _)) (iI (aY (yX hr.units0) (pv 1) (bD ao) (bG _)))))
   (aC (aR (eV rO (pv 1) fY (gq (oN jR aA)))))
   bK)
  (aC (aR (bA bR (cU (aj tu (aj (bV jN rfl m_list boot_list (aj (pv 1) ao)) (aj bL (aj aA (aj (aX je (pv 1) (bD (aj tu ao))) (aj (aX je (pv 1) (bD (aj aA ao))) (aj gn ao)))))))) (pv 4) (fun _ _=>rfl)))))
   bK)
  (aC (aR (bA bR (cU (aj tu (aj gn (aj gn (aj bL (aj (bD (aj (pv 1) ao)) (aj (cU (aj (pv 1) ao)) (aj (bV xP rfl m_str boot_str (aj (pv 1) ao)) ao)))))))) (pv 4) (fun _ _=>rfl))))))),?_⟩
  refine Mj (fun σ H'=>σ=[some (.ref b),some v,some (.int (n:Nat)),none,none]∧cj b H'∧eX b H H') (fun N hN=>?_) ?_
  ·refine ⟨_,rfl,v, "tuple",[b],t,rfl,hv,.inr (.inr (.inr rfl)),_,rfl,?_⟩
   refine dR (fun c=>?_) (fun c=>hN _ _ ⟨rfl,hp,.of (Same.refl H)⟩)
   obtain ⟨ts,et⟩:=(fB t).mp c
   have hv2:=hv
   rw [et] at hv2
   obtain ⟨p,us,ev,e,dl⟩:=fO hv2
   have hl:=dl.len
   rcases hL.cases with ⟨i,ei,_⟩ | ⟨kn,ts',_,ei,hL1,hL2⟩
   ·rw [et] at ei
    cases ei
   rw [et] at ei
   cases ei
   subst ev
   refine ⟨_,rfl,smn 0,fun te hte=>?_⟩
   have s1:=aq hte (.tup [])
   have e1:(upd H te (.tup [])) te=some (.tup []):=ak
   generalize upd H te (.tup [])=H1 at s1 e1
   refine ⟨p,te,us,rfl,rfl,SqT.of (s1 _ _ e),SqT.of e1,_,rfl,?_⟩
   have p1:=hp.same s1
   have o1:eX b H H1:=.of s1
   refine dR (fun c1=>?_) (fun c1=>hN _ _ ⟨rfl,p1,o1⟩)
   refine ⟨_,rfl,_,_,rfl,rfl,_,rfl,?_⟩
   refine dR (fun c2=>?_) (fun c2=>hN _ _ ⟨rfl,p1,o1⟩)
   have hn:0 < n:=by
    have:=of_decide_eq_true c2
    omega
   have hlen:0 < us.length:=by
    cases us with
    | nil=>cases c1
    | cons _ _=>exact Nat.succ_pos _
   refine ⟨_,rfl,b,5,rfl,p1,by decide,by decide,fun r H2 p2 o2 r0 r1=>⟨_,_,rfl,rfl,_,rfl,?_⟩⟩
   have o02:=o1.trans o2
   refine dR (fun c3=>?_) (fun c3=>hN _ _ ⟨rfl,p2,o02⟩)
   clear hN c c1 c2 c3 r0 r1
   have e2:=o02.tup hp _ _ e
   refine ⟨_,rfl,_,rfl,p,_,rfl,.inr (SqT.of e2),b,_,rfl,p2,by omega,by omega,fun r H3 p3 o3 r0 r1=>gN ?_⟩
   obtain ⟨x,rfl⟩:=Int.eq_ofNat_of_zero_le r0
   have hx:x < us.length:=by omega
   have o03:=o02.trans o3
   have e3:=o03.tup hp _ _ e
   have dl3:=wN hp o03 dl
   refine ⟨_,rfl,_,rfl,_,rfl,p,us,rfl,e3,fun p4 H4 s4 e4=>?_⟩
   rw [Nq (by omega)] at e4
   have p4':=p3.same s4
   obtain ⟨m,rfl⟩:∃ m,n=m+1:=⟨n - 1,by omega⟩
   obtain ⟨tx,htx,dx⟩:=(dl3.same s4).at_ (bB hx)
   refine ⟨_,rfl,_,rfl,_,rfl,p,_,_,_,rfl,rfl,SqT.of (s4 _ _ e3),bw (bB hx),_,rfl,_,_,rfl,rfl,b,us[x],tx,kn,?_,p4',dx,hL2 tx (List.mem_of_getElem? htx),fun v' t' H5 p5 o5 hv' hsp=>?_⟩
   ·show [V.ref b,us[x],V.int (((m+1:Nat):Int) - 1)]=_
    rw [show ((m+1:Nat):Int) - 1=(m:Nat) by omega]
   refine ⟨smn 1,fun a6 h6=>?_⟩
   have s6:=aq h6 (.tup [v'])
   have e6:(upd H5 a6 (.tup [v'])) a6=some (.tup [v']):=ak
   generalize upd H5 a6 (.tup [v'])=H6 at s6 e6
   have e46:=s6 _ _ (o5.tup p4' _ _ e4)
   refine ⟨p4,a6,_,_,rfl,rfl,e46,e6,small (by rw [List.length_take]; show _+1≤1000; omega),fun p7 H7 s7 e7=>?_⟩
   have p6':=(p5.same s6).same s7
   have o07:eX b H H7:=((o03.trans (.of s4)).trans o5).trans (.of (s6.trans s7))
   have e37:=o07.tup hp _ _ e
   refine ⟨_,rfl,_,rfl,_,_,rfl,rfl,_,rfl,p,us,rfl,e37,fun p8 H8 s8 e8=>?_⟩
   have e8':H8 p8=some (.tup (us.drop (x+1))):=by
    have e:jl us (some (((x:Nat):Int)+1)) none=us.drop (x+1):=Nu (r:=x+1) (by omega)
    rw [← e]
    exact e8
   refine ⟨p7,p8,_,_,rfl,rfl,s8 _ _ e7,e8',small (by rw [List.length_append,List.length_take,List.length_drop]; show _+1+_≤1000; omega),fun p9 H9 s9 e9=>?_⟩
   have o09:=o07.trans (.of (s8.trans s9))
   have dl9:=wN hp o09 dl
   have hv9:=((hv'.same (s6.trans s7)).same s8).same s9
   refine k (.ref p9) (.tup (ts.take x++[t']++ts.drop (x+1))) H9 ((p6'.same s8).same s9) o09 ⟨p9,_,rfl,e9,((dl9.take x).app (JZ hv9)).app (dl9.drop (x+1))⟩ ?_
   exact .inr ⟨ts,x,tx,t',et,htx,hsp,rfl⟩
  ·rintro σ H1 ⟨rfl,p1,o1⟩
   have k:∀ (v':V) (t':Th) (H':Hp),cj b H'→eX b H H'→TgV [b] H' v' t'→Fo t t'→Q v' H':=fun v' t' H' p o h1 h2=>k v' t' H' p o h1 (.of0 h2)
   refine ⟨_,rfl,b,7,rfl,p1,by decide,by decide,fun r H2 p2 o2 r0 r1=>gN ?_⟩
   have o02:=o1.trans o2
   have hv2:=Df hp o02 hv
   refine ⟨_,rfl,v, "tuple",[b],t,rfl,hv2,.inr (.inr (.inr rfl)),_,rfl,?_⟩
   refine dR (fun c=>?_) (fun c=>?_)
   ·obtain ⟨ts,et⟩:=(fB t).mp c
    have hv3:=hv2
    rw [et] at hv3
    obtain ⟨p,us,ev,e,dl⟩:=fO hv3
    have hl:=dl.len
    rcases hL.cases with ⟨i,ei,_⟩ | ⟨kn,ts',_,ei,hL1,hL2⟩
    ·rw [et] at ei
     cases ei
    rw [et] at ei
    cases ei
    subst ev
    refine Mj (fun σ H'=>σ=[some (.ref b),some (.ref p),some (.int (n:Nat)),none,some (.int r)]∧Same H2 H') (fun N hN=>?_) ?_
    ·refine ⟨_,rfl,rfl,_,rfl,?_⟩
     refine dR (fun c1=>?_) (fun c1=>hN _ _ ⟨rfl,Same.refl _⟩)
     refine ⟨_,rfl,smn 0,fun te hte=>?_⟩
     have s3:=aq hte (.tup [])
     have e3:(upd H2 te (.tup [])) te=some (.tup []):=ak
     generalize upd H2 te (.tup [])=H3 at s3 e3
     refine ⟨p,te,us,rfl,rfl,SqT.of (s3 _ _ e),SqT.of e3,_,rfl,?_⟩
     refine dR (fun c2=>?_) (fun c2=>hN _ _ ⟨rfl,s3⟩)
     have hne:us≠[]:=fun z=>by rw [z] at c2; cases c2
     refine ⟨_,rfl,_,rfl,_,rfl,p,us,rfl,s3 _ _ e,fun p4 H4 s4 e4=>?_⟩
     rw [MK hne] at e4
     have s24:=s3.trans s4
     refine k (.ref p4) (.tup (ts.take (ts.length - 1))) H4 (p2.same s24) (o02.trans (.of s24)) ⟨p4,_,rfl,e4,by rw [hl]; exact (dl.same s24).take _⟩ (.inl ⟨ts,et,.inr (.inr (.inr (.inr (.inr (.inr (.inr ⟨fun z=>?_,rfl⟩))))))⟩)
     rw [z,List.length_nil] at hl
     exact hne (List.eq_nil_of_length_eq_zero hl)
    ·rintro σ H3 ⟨rfl,s3⟩
     refine ⟨_,rfl,p,us,rfl,.inr (SqT.of (s3 _ _ e)),fun l4 hl4=>?_⟩
     have s4:=aq hl4 (.lst us)
     have e4:(upd H3 l4 (.lst us)) l4=some (.lst us):=ak
     generalize upd H3 l4 (.lst us)=H4 at s4 e4
     have n4:l4≠b:=(p2.same s3).ne hl4
     refine ⟨_,rfl,smn 1,fun a5 h5=>?_⟩
     have s5:=aq h5 (.tup [.non])
     have e5:(upd H4 a5 (.tup [.non])) a5=some (.tup [.non]):=ak
     generalize upd H4 a5 (.tup [.non])=H5 at s5 e5
     have s25:=(s3.trans s4).trans s5
     refine ⟨p,a5,_,_,rfl,rfl,s25 _ _ e,e5,small (by show _+1≤1000; omega),fun p6 H6 s6 e6=>?_⟩
     refine ⟨_,rfl,smn 1,fun a7 h7=>?_⟩
     have s7:=aq h7 (.tup [.int 0])
     have e7:(upd H6 a7 (.tup [.int 0])) a7=some (.tup [.int 0]):=ak
     generalize upd H6 a7 (.tup [.int 0])=H7 at s7 e7
     have s27:=(s25.trans s6).trans s7
     refine ⟨p,a7,_,_,rfl,rfl,s27 _ _ e,e7,small (by show _+1≤1000; omega),fun p8 H8 s8 e8=>⟨smn 7,fun l9 h9=>?_⟩⟩
     have s9:=aq h9 (.lst [.non,.ref l4,.str "ab",.int 7,.ref p6,.ref p8,.bl true])
     obtain ⟨v',hat,hmem⟩:=at7 (xs:=[.non,.ref l4,.str "ab",.int 7,.ref p6,.ref p8,.bl true]) r0 r1
     refine ⟨_,rfl,l9,_,_,_,rfl,rfl,SqL.of ak,hat,?_⟩
     generalize upd H8 l9 (.lst [.non,.ref l4,.str "ab",.int 7,.ref p6,.ref p8,.bl true])=H9 at s9
     have s79:=s8.trans s9
     have s29:=s27.trans s79
     have dl9:=dl.same s29
     have k:∀ t',TgV [b] H9 v' t'→(t'=.non∨t'=.lst∨(∃ x,t'=.str x)∨t'=.int 7∨t'=.tup (ts++[.non])∨t'=.tup (ts++[.int 0])∨t'=.bl true∨(ts≠[]∧t'=.tup (ts.take (ts.length - 1))))→Q v' H9:=fun t' h1 h2=>k v' t' H9 (p2.same s29) (o02.trans (.of s29)) h1 (.inl ⟨ts,et,h2⟩)
     simp only [List.mem_cons,List.not_mem_nil,or_false] at hmem
     rcases hmem with hm | hm | hm | hm | hm | hm | hm
     ·exact k .non hm (.inl rfl)
     ·exact k .lst ⟨l4,us,hm,fun z=>n4 (List.mem_singleton.mp z),(((s5.trans s6).trans s7).trans s79) _ _ e4⟩ (.inr (.inl rfl))
     ·exact k (.str "ab") hm (.inr (.inr (.inl ⟨_,rfl⟩)))
     ·exact k (.int 7) hm (.inr (.inr (.inr (.inl rfl))))
     ·exact k (.tup (ts++[.non])) ⟨p6,_,hm,(s7.trans s79) _ _ e6,dl9.app (JZ (t:=.non) rfl)⟩ (.inr (.inr (.inr (.inr (.inl rfl)))))
     ·exact k (.tup (ts++[.int 0])) ⟨p8,_,hm,s9 _ _ e8,dl9.app (JZ (t:=.int 0) rfl)⟩ (.inr (.inr (.inr (.inr (.inr (.inl rfl))))))
     ·exact k (.bl true) hm (.inr (.inr (.inr (.inr (.inr (.inr (.inl rfl)))))))
   ·obtain ⟨i,et,hi⟩:∃ i,t=.int i∧i.natAbs≤1000000000000:=by
     rcases hL.cases with h | ⟨_,ts,_,et,_⟩
     ·exact h
     ·exact absurd ((fB t).mpr ⟨ts,et⟩) c
    have hv3:=hv2
    rw [et] at hv3
    have ev:v=.int i:=hv3
    subst ev
    refine ⟨_,rfl,smn 1,fun a3 h3=>?_⟩
    have s3:=aq h3 (.tup [.int i])
    have e3:(upd H2 a3 (.tup [.int i])) a3=some (.tup [.int i]):=ak
    generalize upd H2 a3 (.tup [.int i])=H3 at s3 e3
    refine ⟨_,rfl,smn 1,fun a4 h4=>?_⟩
    have n4:a4≠b:=(p2.same s3).ne h4
    have s4:=aq h4 (.lst [.int i])
    have e4:(upd H3 a4 (.lst [.int i])) a4=some (.lst [.int i]):=ak
    generalize upd H3 a4 (.lst [.int i])=H4 at s4 e4
    refine ⟨_,rfl,i,rfl,xQ hi,fun x=>⟨smn 7,fun l5 h5=>?_⟩⟩
    have s5:=aq h5 (.lst [.non,.bl true,.bl false,.str "0",.ref a3,.ref a4,.str x])
    obtain ⟨v',hat,hmem⟩:=at7 (xs:=[.non,.bl true,.bl false,.str "0",.ref a3,.ref a4,.str x]) r0 r1
    refine ⟨_,rfl,l5,_,_,_,rfl,rfl,SqL.of ak,hat,?_⟩
    generalize upd H4 l5 (.lst [.non,.bl true,.bl false,.str "0",.ref a3,.ref a4,.str x])=H5 at s5
    have s25:=(s3.trans s4).trans s5
    have k:∀ t',TgV [b] H5 v' t'→(t'=.non∨(∃ b,t'=.bl b)∨(∃ x,t'=.str x)∨t'=.tup [t]∨t'=.lst)→Q v' H5:=fun t' h1 h2=>k v' t' H5 (p2.same s25) (o02.trans (.of s25)) h1 (.inr ⟨⟨i,et⟩,h2⟩)
    simp only [List.mem_cons,List.not_mem_nil,or_false] at hmem
    rcases hmem with hm | hm | hm | hm | hm | hm | hm
    ·exact k .non hm (.inl rfl)
    ·exact k (.bl true) hm (.inr (.inl ⟨_,rfl⟩))
    ·exact k (.bl false) hm (.inr (.inl ⟨_,rfl⟩))
    ·exact k (.str "0") hm (.inr (.inr (.inl ⟨_,rfl⟩)))
    ·exact k (.tup [t]) ⟨a3,_,hm,(s4.trans s5) _ _ e3,by rw [et]; exact rfl,trivial⟩ (.inr (.inr (.inr (.inl rfl))))
    ·exact k .lst ⟨a4,_,hm,fun z=>n4 (List.mem_singleton.mp z),s5 _ _ e4⟩ (.inr (.inr (.inr (.inr rfl))))
    ·exact k (.str x) hm (.inr (.inr (.inl ⟨_,rfl⟩)))
end
theorem Spo.inv {n:Nat} {ts:List Th} {t':Th} (h:Spo n (.tup ts) t'):(∀ us,t'≠.tup us)∨t'=.tup (ts++[.non])∨t'=.tup (ts++[.int 0])∨(ts≠[]∧t'=.tup (ts.take (ts.length - 1)))∨∃ (m i:Nat) (x x':Th),ts[i]?=some x∧Spo m x x'∧t'=.tup (ts.take i++[x']++ts.drop (i+1)):=by
 have h0:∀ {t':Th},Fo (.tup ts) t'→(∀ us,t'≠.tup us)∨t'=.tup (ts++[.non])∨t'=.tup (ts++[.int 0])∨(ts≠[]∧t'=.tup (ts.take (ts.length - 1))):=fun {t'} h=>by
  rcases h with ⟨us,e,h⟩ | ⟨⟨i,e⟩,_⟩
  ·cases e
   rcases h with rfl | rfl | ⟨x,rfl⟩ | rfl | rfl | rfl | rfl | h
   ·exact .inl fun us z=>nomatch z
   ·exact .inl fun us z=>nomatch z
   ·exact .inl fun us z=>nomatch z
   ·exact .inl fun us z=>nomatch z
   ·exact .inr (.inl rfl)
   ·exact .inr (.inr (.inl rfl))
   ·exact .inl fun us z=>nomatch z
   ·exact .inr (.inr (.inr h))
  ·cases e
 cases n with
 | zero =>
  rcases h0 h with h | h | h | h
  ·exact .inl h
  ·exact .inr (.inl h)
  ·exact .inr (.inr (.inl h))
  ·exact .inr (.inr (.inr (.inl h)))
 | succ n =>
  rcases h with h | ⟨us,i,x,x',e,h1,h2,h3⟩
  ·rcases h0 h with h | h | h | h
   ·exact .inl h
   ·exact .inr (.inl h)
   ·exact .inr (.inr (.inl h))
   ·exact .inr (.inr (.inr (.inl h)))
  ·cases e
   exact .inr (.inr (.inr (.inr ⟨n,i,x,x',h1,h2,h3⟩)))
theorem zO {n:Nat} {i:Int} {t':Th} (h:Spo n (.int i) t'):jr t'=false:=by
 have h0:∀ {t':Th},Fo (.int i) t'→jr t'=false:=fun {t'} h=>by
  rcases h with ⟨us,e,h⟩ | ⟨_,h⟩
  ·cases e
  ·rcases h with rfl | ⟨_,rfl⟩ | ⟨_,rfl⟩ | rfl | rfl <;> rfl
 cases n with
 | zero=>exact h0 h
 | succ n =>
  rcases h with h | ⟨us,i,x,x',e,h1,h2,h3⟩
  ·exact h0 h
  ·cases e
theorem rE {f:Th→Bool} {a b:List Th} {x:Th} (h:∀ u∈a++[x]++b,f u=true):f x=true:=h x (by simp)
theorem ux {n:Nat} {ns:List Int} {t':Th} (h:Spo n (.tup (ns.map Th.int)) t') (hk:fU t'=true):∃ k:List Int,t'=.tup (k.map Th.int)∧(k=ns++[0]∨(ns≠[]∧k=ns.take (ns.length - 1))):=by
 rcases h.inv with h | rfl | rfl | ⟨h1,rfl⟩ | ⟨m,i,x,x',h1,h2,rfl⟩
 ·cases t' with
  | tup us=>exact absurd rfl (h us)
  | _=>cases hk
 ·have:=List.all_eq_true.mp hk .non (by simp)
  cases this
 ·exact ⟨ns++[0],by rw [List.map_append]; rfl,.inl rfl⟩
 ·refine ⟨ns.take (ns.length - 1),by rw [List.length_map,List.map_take],.inr ⟨fun z=>h1 (by rw [z]; rfl),rfl⟩⟩
 ·have hx:=rE (f:=jr) (List.all_eq_true.mp hk)
  rw [List.getElem?_map] at h1
  obtain ⟨y,_,rfl⟩:=Option.map_eq_some_iff.mp h1
  rw [zO h2] at hx
  cases hx
theorem JC {n:Nat} {l:List Nat} {t':Th} (h:Spo n (thI l) t') (hk:fU t'=true):∃ k:List Nat,t'=thI k∧k.length≤l.length+1∧k.length≠l.length:=by
 have e:∀ l:List Nat,thI l=.tup ((l.map fun i=>((i:Nat):Int)).map Th.int):=fun l=>by
  unfold thI
  rw [List.map_map]
  rfl
 rw [e] at h
 obtain ⟨k,rfl,hk2⟩:=ux h hk
 rcases hk2 with rfl | ⟨h1,rfl⟩
 ·refine ⟨l++[0],by rw [e]; simp,by rw [List.length_append]; exact Nat.le_refl _,by rw [List.length_append,List.length_singleton]; omega⟩
 ·have hl:0 < l.length:=List.length_pos_iff.mpr fun z=>h1 (by rw [z]; rfl)
  refine ⟨l.take (l.length - 1),by rw [e]; simp [List.map_take],by rw [List.length_take]; omega,by rw [List.length_take]; omega⟩
def Ad (q:Lk):Nat:=q.1.length+q.2.length
def DG (s:Stp):Nat:=(s.map Ad).sum
theorem qX (s:Stp):DG s=sz1 s+sz2 s:=by
 unfold DG sz1 sz2
 induction s with
 | nil=>rfl
 | cons q s ih =>
  simp only [List.map_cons,List.sum_cons,Ad]
  omega
theorem KR {n:Nat} {q:Lk} {t':Th} (h:Spo n (thL q) t') (hk:m9 t'=true):∃ p:Lk,t'=thL p∧(p.1.length≤q.1.length+1∧p.2.length≤q.2.length+1)∧Ad p≠Ad q:=by
 rcases h.inv with h | rfl | rfl | ⟨h1,rfl⟩ | ⟨m,i,x,x',h1,h2,rfl⟩
 ·cases t' with
  | tup us=>exact absurd rfl (h us)
  | _=>cases hk
 ·cases hk
 ·cases hk
 ·cases hk
 ·unfold Ad
  match i,h1 with
  | 0,h1 =>
   cases h1
   obtain ⟨a,b⟩:=Bool.and_eq_true_iff.mp hk
   obtain ⟨k,rfl,k1,k2⟩:=JC h2 a
   exact ⟨(k,q.2),rfl,⟨k1,Nat.le_succ _⟩,by show k.length+q.2.length≠_; omega⟩
  | 1,h1 =>
   cases h1
   obtain ⟨a,b⟩:=Bool.and_eq_true_iff.mp hk
   obtain ⟨k,rfl,k1,k2⟩:=JC h2 b
   exact ⟨(q.1,k),rfl,⟨Nat.le_succ _,k1⟩,by show q.1.length+k.length≠_; omega⟩
  | i+2,h1=>cases h1
theorem sS {X:Type} {g:X→Th} {tot:X→Nat} {ok:X→Prop} {kind:Th→Bool} {n:Nat} {t':Th} {xs:List X} (hnon:kind .non=false) (hint:kind (.int 0)=false) (hpos:∀ x∈xs,1≤tot x) (hok:∀ x∈xs,ok x) (sub:∀ (m:Nat) (x':Th),∀ x∈xs,Spo m (g x) x'→kind x'=true→∃ y,x'=g y∧ok y∧tot y≠tot x)
  (h:Spo n (.tup (xs.map g)) t') (hk:∃ ts,t'=.tup ts∧∀ u∈ts,kind u=true):∃ ys:List X,t'=.tup (ys.map g)∧ys.length≤xs.length∧(∀ y∈ys,ok y)∧(ys.map tot).sum≠(xs.map tot).sum:=by
 obtain ⟨ts,rfl,hk⟩:=hk
 rcases h.inv with h | h | h | ⟨h1,h⟩ | ⟨m,i,x,x',h1,h2,h⟩
 ·exact absurd rfl (h ts)
 ·cases h
  have:=hk .non (by simp)
  rw [hnon] at this
  cases this
 ·cases h
  have:=hk (.int 0) (by simp)
  rw [hint] at this
  cases this
 ·have hl:0 < xs.length:=List.length_pos_iff.mpr fun z=>h1 (by rw [z]; rfl)
  refine ⟨xs.take (xs.length - 1),by rw [h,List.length_map,List.map_take],by rw [List.length_take]; omega,fun y hy=>hok y (List.mem_of_mem_take hy),?_⟩
  have hlt:xs.length - 1 < xs.length:=by omega
  have e:xs=xs.take (xs.length - 1)++[xs[xs.length - 1]]:=by
   have:=take_one (bB hlt)
   rw [Nat.sub_add_cancel hl,List.take_length] at this
   exact this
  have hp:=hpos _ (List.getElem_mem hlt)
  have es:=congrArg (fun l=>(l.map tot).sum) e
  simp only [List.map_append,List.sum_append,List.map_cons,List.map_nil,List.sum_cons,List.sum_nil] at es
  omega
 ·cases h
  rw [List.getElem?_map] at h1
  obtain ⟨z,hz,rfl⟩:=Option.map_eq_some_iff.mp h1
  obtain ⟨y,rfl,oy,ty⟩:=sub m x' z (List.mem_of_getElem? hz) h2 (rE hk)
  have hi:=(List.getElem?_eq_some_iff.mp hz).1
  refine ⟨xs.take i++[y]++xs.drop (i+1),by rw [List.map_append,List.map_append,List.map_take,List.map_drop]; rfl,by rw [List.length_append,List.length_append,List.length_take,List.length_drop,List.length_singleton]; omega,fun u hu=>?_,?_⟩
  ·rcases List.mem_append.mp hu with hu | hu
   ·rcases List.mem_append.mp hu with hu | hu
    ·exact hok u (List.mem_of_mem_take hu)
    ·rw [List.mem_singleton.mp hu]
     exact oy
   ·exact hok u (List.mem_of_mem_drop hu)
  ·have e:xs=xs.take i++[z]++xs.drop (i+1):=by
    have h1:=take_one hz
    rw [← h1,List.take_append_drop]
   have es:=congrArg (fun l=>(l.map tot).sum) e
   simp only [List.map_append,List.sum_append,List.map_cons,List.map_nil,List.sum_cons,List.sum_nil] at es ⊢
   omega
theorem mY {m n:Nat}:∀ {w:List Stp} {i j:Nat},mG m n i j w→(w.map DG).sum+i+j=m+n
 | [],i,j,h=>by
  rw [h.1,h.2]
  show 0+m+n=_
  omega
 | s :: w,i,j,h=>by
  have:=mY h.2
  rw [List.map_cons,List.sum_cons,qX]
  omega
theorem JL {i j m n:Nat} {s:Stp} (h:s∈aJ i j m n):∀ q∈s,1≤Ad q:=by
 intro q hq
 rcases List.mem_append.mp h with h' | h'
 ·have hs:=(step_at h).2.2
  rw [← qX] at hs
  obtain ⟨p,hp,rfl⟩:=List.mem_map.mp h'
  rw [List.mem_singleton.mp hq]
  have e:DG (one i j p)=Ad (List.range' i p.1,List.range' j p.2):=Nat.add_zero _
  rw [e] at hs
  exact hs
 ·split at h'
  ·rw [List.mem_singleton.mp h'] at hq
   simp only [crs,List.mem_cons,List.not_mem_nil,or_false] at hq
   rcases hq with rfl | rfl <;> exact (by decide:1≤1+1)
  ·cases h'
theorem wZ {m n:Nat}:∀ {w:List Stp} {i j:Nat},mG m n i j w→∀ s∈w,(∀ q∈s,1≤Ad q)∧1≤DG s
 | s :: w,i,j,h,t,ht=>by
  rcases List.mem_cons.mp ht with rfl | ht
  ·exact ⟨JL h.1,by rw [qX]; exact (step_at h.1).2.2⟩
  ·exact wZ h.2 t ht
theorem Km {n:Nat} {s:Stp} {t':Th} (h:Spo n (thS s) t') (hk:jU t'=true) (hp:∀ q∈s,1≤Ad q) (h3:∀ q∈s,q.1.length≤3∧q.2.length≤3):∃ r:Stp,t'=thS r∧(r.length≤s.length∧∀ q∈r,q.1.length≤4∧q.2.length≤4)∧DG r≠DG s:=by
 obtain ⟨ys,h1,h2,h3,h4⟩:=sS (g:=thL) (tot:=Ad) (ok:=fun q=>q.1.length≤4∧q.2.length≤4) (kind:=m9) rfl rfl hp (fun q hq=>by have:=h3 q hq; omega) (fun m x' x hx hs hk=>by
  obtain ⟨p,e,a,b⟩:=KR hs hk
  have:=h3 x hx
  exact ⟨p,e,by omega,b⟩) h (by
  cases t' with
  | tup us=>exact ⟨us,rfl,List.all_eq_true.mp hk⟩
  | _=>cases hk)
 exact ⟨ys,h1,⟨h2,h3⟩,h4⟩
theorem Hq {m n k:Nat} {w:List Stp} {t':Th} (hT:mG m n 0 0 w) (h:Spo k (thW w) t') (hk:GR t'=true):∃ r:List Stp,t'=thW r∧mq r∧¬ mG m n 0 0 r:=by
 have hsm:=eY hT (Nat.zero_le _) (Nat.zero_le _)
 have hok:=wZ hT
 obtain ⟨ys,h1,h2,h3,h4⟩:=sS (g:=thS) (tot:=DG) (ok:=fun s=>s.length≤2∧∀ q∈s,q.1.length≤4∧q.2.length≤4) (kind:=jU) rfl rfl (fun s hs=>(hok s hs).2) (fun s hs=>⟨(hsm.2 s hs).2.1,fun q hq=>⟨Nat.le_trans ((hsm.2 s hs).2.2 q hq).la (by decide),Nat.le_trans ((hsm.2 s hs).2.2 q hq).lb (by decide)⟩⟩) (fun m x' x hx hs hk=>by
  have hx2:=hsm.2 x hx
  obtain ⟨p,e,a,b⟩:=Km hs hk (hok x hx).1 (fun q hq=>⟨(hx2.2.2 q hq).la,(hx2.2.2 q hq).lb⟩)
  exact ⟨p,e,⟨by omega,a.2⟩,b⟩) h (by
  cases t' with
  | tup us=>exact ⟨us,rfl,List.all_eq_true.mp hk⟩
  | _=>cases hk)
 refine ⟨ys,h1,h3,fun z=>h4 ?_⟩
 have a:=mY z
 have b:=mY hT
 omega
theorem Ku {k n:Nat} {f:Nat→Int} {t':Th} (h:Spo k (thR n f) t') (h1:qL (n+1) t'=true) (h2:fU t'=true):False:=by
 obtain ⟨ns,rfl,h5⟩:=ux h h2
 have hl:(ns.map Th.int).length=n+1:=of_decide_eq_true h1
 rw [List.length_map] at hl
 rcases h5 with rfl | ⟨_,rfl⟩
 ·rw [List.length_append,List.length_map,List.length_range,List.length_singleton] at hl
  omega
 ·rw [List.length_take,List.length_map,List.length_range] at hl
  omega
theorem Kw {k m n:Nat} {F:Nat→Nat→Int} {t':Th} (h:Spo k (thG m n F) t') (hk:yZ (m+1) (n+1) t'=true):False:=by
 rcases h.inv with h | rfl | rfl | ⟨h1,rfl⟩ | ⟨m',i,x,x',h1,h2,rfl⟩
 ·cases t' with
  | tup us=>exact absurd rfl (h us)
  | _=>cases hk
 ·have hl:=of_decide_eq_true (Bool.and_eq_true_iff.mp hk).1
  rw [List.length_append,List.length_map,List.length_range,List.length_singleton] at hl
  omega
 ·have hl:=of_decide_eq_true (Bool.and_eq_true_iff.mp hk).1
  rw [List.length_append,List.length_map,List.length_range,List.length_singleton] at hl
  omega
 ·have hl:=of_decide_eq_true (Bool.and_eq_true_iff.mp hk).1
  rw [List.length_take,List.length_map,List.length_range] at hl
  omega
 ·have hx:=rE (f:=fun r=>qL (n+1) r && fU r) (List.all_eq_true.mp (Bool.and_eq_true_iff.mp hk).2)
  obtain ⟨a,b⟩:=Bool.and_eq_true_iff.mp hx
  rw [List.getElem?_map] at h1
  obtain ⟨y,_,rfl⟩:=Option.map_eq_some_iff.mp h1
  exact Ku h2 a b
theorem nF {m n:Nat} {w:List Stp} (h:mG m n 0 0 w):mq w:=fun s hs=>by
 have hsm:=(eY h (Nat.zero_le _) (Nat.zero_le _)).2 s hs
 exact ⟨hsm.2.1,fun p hp=>⟨Nat.le_trans (hsm.2.2 p hp).la (by decide),Nat.le_trans (hsm.2.2 p hp).lb (by decide)⟩⟩
theorem Gr {a b c x y z:Th} (h:Th.tup [a,b,c]=.tup [x,y,z]):a=x∧b=y∧c=z:=by
 cases h
 exact ⟨rfl,rfl,rfl⟩
theorem BJ {k m n:Nat} {cost:Stp→Int} {c:Int} {w:List Stp} {F:Nat→Nat→Int} {t':Th} (hT:mG m n 0 0 w) (h:Spo k (thT m n c w F) t'):PW t'∧¬ yM m n cost t':=by
 have len3:∀ {us:List Th},us.length≠3→PW (.tup us)∧¬ yM m n cost (.tup us):=fun {us} h=>⟨fun a b d e=>by
  cases e
  exact absurd rfl h,by
  rintro ⟨k',w',F',e,_⟩
  cases e
  exact h rfl⟩
 rcases h.inv with h | rfl | rfl | ⟨h1,rfl⟩ | ⟨m',i,x,x',h1,h2,rfl⟩
 ·exact ⟨fun a b d e=>absurd e (h _),by
   rintro ⟨k',w',F',e,_⟩
   exact h _ e⟩
 ·exact len3 (by show 4≠3; decide)
 ·exact len3 (by show 4≠3; decide)
 ·exact len3 (by show 2≠3; decide)
 ·match i,h1 with
  | 0,h1 =>
   cases h1
   refine ⟨fun a b d e hb=>?_,?_⟩
   ·obtain ⟨_,rfl,_⟩:=Gr e
    exact ⟨w,rfl,nF hT⟩
   ·rintro ⟨k',w',F',e,_⟩
    obtain ⟨rfl,_,_⟩:=Gr e
    have:=zO h2
    cases this
  | 1,h1 =>
   cases h1
   refine ⟨fun a b d e hb=>?_,?_⟩
   ·obtain ⟨_,rfl,_⟩:=Gr e
    obtain ⟨r,e1,e2,_⟩:=Hq hT h2 hb
    exact ⟨r,e1,e2⟩
   ·rintro ⟨k',w',F',e,hS⟩
    obtain ⟨_,rfl,_⟩:=Gr e
    obtain ⟨r,e1,_,e3⟩:=Hq hT h2 (Di w')
    rw [← qY e1] at e3
    exact e3 hS.thru
  | 2,h1 =>
   cases h1
   refine ⟨fun a b d e hb=>?_,?_⟩
   ·obtain ⟨_,rfl,_⟩:=Gr e
    exact ⟨w,rfl,nF hT⟩
   ·rintro ⟨k',w',F',e,_⟩
    obtain ⟨_,_,rfl⟩:=Gr e
    exact Kw h2 (uz.mpr ⟨F',rfl⟩)
  | i+3,h1=>cases h1
theorem rz:∀ {k d:Nat} {t:Th},Lf k t→LG d t:=by
 intro k
 induction k with
 | zero =>
  intro d t h
  cases t with
  | int i=>cases d <;> trivial
  | _=>exact h.elim
 | succ k ih =>
  intro d t h
  cases t with
  | tup ts =>
   cases d with
   | zero=>exact trivial
   | succ d=>exact ⟨Nat.le_trans h.1 (by decide),fun t ht=>ih (h.2 t ht)⟩
  | int i=>cases d <;> trivial
  | _=>exact h.elim
theorem u9 {d:Nat} {ts:List Th} (h1:ts.length≤900) (h2:∀ t∈ts,∀ d,LG d t):LG d (.tup ts):=by
 cases d with
 | zero=>exact trivial
 | succ d=>exact ⟨h1,fun t ht=>h2 t ht d⟩
theorem wA {k d:Nat} {t t':Th} (hL:Lf k t) (h:Fo t t'):LG d t':=by
 rcases h with ⟨ts,rfl,h⟩ | ⟨⟨i,rfl⟩,h⟩
 ·rcases hL.cases with ⟨i,e,_⟩ | ⟨kn,ts',_,e,h1,h2⟩
  ·cases e
  cases e
  have ap:∀ u:Th,(∀ d,LG d u)→LG d (.tup (ts++[u])):=fun u hu=>u9 (by rw [List.length_append,List.length_singleton]; omega) fun t ht=>by
   rcases List.mem_append.mp ht with ht | ht
   ·exact fun d=>rz (h2 t ht)
   ·rw [List.mem_singleton.mp ht]
    exact hu
  rcases h with rfl | rfl | ⟨x,rfl⟩ | rfl | rfl | rfl | rfl | ⟨_,rfl⟩
  ·cases d <;> trivial
  ·cases d <;> trivial
  ·cases d <;> trivial
  ·cases d <;> trivial
  ·exact ap _ fun d=>by cases d <;> trivial
  ·exact ap _ fun d=>by cases d <;> trivial
  ·cases d <;> trivial
  ·exact u9 (by rw [List.length_take]; omega) fun t ht d=>rz (h2 t (List.mem_of_mem_take ht))
 ·rcases h with rfl | ⟨_,rfl⟩ | ⟨_,rfl⟩ | rfl | rfl
  ·cases d <;> trivial
  ·cases d <;> trivial
  ·cases d <;> trivial
  ·refine u9 (by simp) fun t ht d=>?_
   rw [List.mem_singleton.mp ht]
   cases d <;> trivial
  ·cases d <;> trivial
theorem CV:∀ {n k d:Nat} {t t':Th},Lf k t→Spo n t t'→LG d t'
 | 0,_,_,_,_,hL,h=>wA hL h
 | n+1,k,d,t,t',hL,h=>by
  rcases h with h | ⟨ts,i,x,x',rfl,h1,h2,rfl⟩
  ·exact wA hL h
  ·rcases hL.cases with ⟨i,e,_⟩ | ⟨kn,ts',_,e,h3,h4⟩
   ·cases e
   cases e
   have hi:=(List.getElem?_eq_some_iff.mp h1).1
   refine u9 (by rw [List.length_append,List.length_append,List.length_take,List.length_drop,List.length_singleton]; omega) fun u hu d=>?_
   rcases List.mem_append.mp hu with hu | hu
   ·rcases List.mem_append.mp hu with hu | hu
    ·exact rz (h4 u (List.mem_of_mem_take hu))
    ·rw [List.mem_singleton.mp hu]
     exact CV (h4 x (List.mem_of_getElem? h1)) h2
   ·exact rz (h4 u (List.mem_of_mem_drop hu))
theorem vZ {p q a b:Int} (h0:0≤p) (h1:p≤a) (h2:0≤q) (h3:q≤b):0≤p * q∧p * q≤a * b:=⟨Int.mul_nonneg h0 h2,Int.mul_le_mul h1 h3 h2 (by omega)⟩
theorem lO {ns:List Int} (h:∀ x∈ns,0≤x∧x≤1000000) (k:Nat):0≤ns.getD k 0∧ns.getD k 0≤1000000:=by
 rw [List.getD_eq_getElem?_getD]
 cases e:ns[k]? with
 | none=>exact ⟨Int.le_refl _,by decide⟩
 | some x=>exact h x (List.mem_of_getElem? e)
theorem wW {xs:List Str} {is:List Nat} (h:∀ x∈xs,x.length≤1000):∀ x∈pick xs is,x.length≤1000:=fun x hx=>by
 obtain ⟨k,_,rfl⟩:=List.mem_map.mp hx
 rw [List.getD_eq_getElem?_getD]
 cases e:xs[k]? with
 | none=>exact (by decide:Str.empty.length≤1000)
 | some y=>exact h y (List.mem_of_getElem? e)
theorem oG {ns:List Int} {xs ys:List Str} {ps:List (Str × Str)} {m n:Nat} {q:Lk} (h:∀ x∈ns,0≤x∧x≤1000000) (hx:∀ x∈xs,x.length≤1000) (hy:∀ x∈ys,x.length≤1000) (hp:ps.length≤1000) (hq:Ef m n q):-5000000000≤fL ns xs ys ps q∧fL ns xs ys ps q≤5000000000:=by
 have g0:=lO h 0
 have g1:=lO h 1
 have g3:=lO h 3
 have g4:=lO h 4
 have la:=hq.la
 have lb:=hq.lb
 unfold fL
 split
 ·omega
 ·rename_i hc
  have na:0 < q.1.length:=List.length_pos_iff.mpr fun z=>hc (.inl z)
  unfold costOf CP
  have l1:(pick xs q.1).length=q.1.length:=List.length_map _
  have l2:(pick ys q.2).length=q.2.length:=List.length_map _
  have s1:=lA (wW (is:=q.1) hx)
  have s2:=lA (wW (is:=q.2) hy)
  have hh:ur (aV (pick xs q.1)) (aV (pick ys q.2)) ps≤ps.length:=List.length_filter_le _ _
  rw [l1] at s1 ⊢
  rw [l2] at s2 ⊢
  generalize ((pick xs q.1).map siz).sum=a at s1 ⊢
  generalize ((pick ys q.2).map siz).sum=b at s2 ⊢
  generalize ur (aV (pick xs q.1)) (aV (pick ys q.2)) ps=c at hh ⊢
  have m1:0≤Ae (q.1.length:Nat) (q.2.length:Nat) - 1∧Ae (q.1.length:Nat) (q.2.length:Nat) - 1≤3:=by
   unfold Ae
   split <;> omega
  have m2:0≤Ab (a - b)∧Ab (a - b)≤3000:=by
   unfold Ab
   split <;> omega
  have p1:=vZ g1.1 g1.2 m1.1 m1.2
  have p2:=vZ g3.1 g3.2 m2.1 m2.2
  have p3:=vZ (q:=(c:Int)) (b:=1000) g4.1 g4.2 (by omega) (by omega)
  omega
theorem BW {ns:List Int} {xs ys:List Str} {ps:List (Str × Str)} {i j m n:Nat} {s:Stp} (h:∀ x∈ns,0≤x∧x≤1000000) (hx:∀ x∈xs,x.length≤1000) (hy:∀ x∈ys,x.length≤1000) (hp:ps.length≤1000) (hs:s∈aJ i j m n):-20000000000≤bx ns xs ys ps s∧bx ns xs ys ps s≤20000000000:=by
 obtain ⟨_,h2,h3⟩:=dz hs
 have g2:=lO h 2
 unfold bx
 have hsum:-10000000000≤(s.map (fL ns xs ys ps)).sum∧(s.map (fL ns xs ys ps)).sum≤10000000000:=by
  match s,h2,h3 with
  | [],_,_=>exact ⟨by show (-10000000000:Int)≤0; decide,by show (0:Int)≤10000000000; decide⟩
  | [a],_,h3 =>
   have:=oG h hx hy hp (h3 a (by simp))
   simp only [List.map_cons,List.map_nil,List.sum_cons,List.sum_nil]
   omega
  | [a,b],_,h3 =>
   have:=oG h hx hy hp (h3 a (by simp))
   have:=oG h hx hy hp (h3 b (by simp))
   simp only [List.map_cons,List.map_nil,List.sum_cons,List.sum_nil]
   omega
 split <;> omega
theorem zH {m n:Nat} {c:Stp→Int} {G:Grd} (h:fH m n c (fun _ _=>True) G) (hc:∀ i j,∀ s∈aJ i j m n,-20000000000≤c s∧c s≤20000000000):∀ (k i j:Nat),(m - i)+(n - j)≤k→i≤m→j≤n→-20000000000 * ((k:Nat):Int)≤G i j∧G i j≤20000000000 * ((k:Nat):Int)
 | k,i,j,hk,hi,hj=>by
  by_cases z:aJ i j m n=[]
  ·rw [h.nil i j hi hj trivial z]
   omega
  ·obtain ⟨s,hs,e,_⟩:=h.cons i j hi hj trivial z
   have sa:=step_at hs
   have hb:=hc i j s hs
   match k,hk with
   | 0,hk=>omega
   | k+1,hk =>
    have ih:=zH h hc k (i+sz1 s) (j+sz2 s) (by omega) sa.1 sa.2.1
    unfold fM at e
    omega
theorem Ey {m n:Nat} {c:Stp→Int} {G:Grd} {w:List Stp} (h:fH m n c (fun _ _=>True) G) (hc:∀ i j,∀ s∈aJ i j m n,-20000000000≤c s∧c s≤20000000000) (hm:m≤5) (hn:n≤5) (hT:mG m n 0 0 w):Lf 5 (thT m n (G 0 0) w (fun i j=>G 0 0 - G i j)):=by
 have hb:∀ i j,i≤m→j≤n→-200000000000≤G i j∧G i j≤200000000000:=fun i j hi hj=>by
  have:=zH h hc 10 i j (by omega) hi hj
  omega
 have h00:=hb 0 0 (Nat.zero_le _) (Nat.zero_le _)
 have hsm:=eY hT (Nat.zero_le _) (Nat.zero_le _)
 refine ⟨by show 3≤800; decide,fun t ht=>?_⟩
 simp only [List.mem_cons,List.not_mem_nil,or_false] at ht
 rcases ht with rfl | rfl | rfl
 ·show (G 0 0).natAbs≤1000000000000
  omega
 ·refine ⟨by rw [List.length_map]; omega,fun t ht=>?_⟩
  obtain ⟨s,hs,rfl⟩:=List.mem_map.mp ht
  obtain ⟨_,h2,h3⟩:=hsm.2 s hs
  refine ⟨by rw [List.length_map]; omega,fun t ht=>?_⟩
  obtain ⟨q,hq,rfl⟩:=List.mem_map.mp ht
  have hl:=h3 q hq
  refine ⟨by show 2≤800; decide,fun t ht=>?_⟩
  simp only [List.mem_cons,List.not_mem_nil,or_false] at ht
  rcases ht with rfl | rfl
  ·refine ⟨by rw [List.length_map]; exact Nat.le_trans hl.la (by decide),fun t ht=>?_⟩
   obtain ⟨x,hx,rfl⟩:=List.mem_map.mp ht
   have:=hl.a x hx
   show ((x:Nat):Int).natAbs≤1000000000000
   omega
  ·refine ⟨by rw [List.length_map]; exact Nat.le_trans hl.lb (by decide),fun t ht=>?_⟩
   obtain ⟨x,hx,rfl⟩:=List.mem_map.mp ht
   have:=hl.b x hx
   show ((x:Nat):Int).natAbs≤1000000000000
   omega
 ·refine ⟨by rw [List.length_map,List.length_range]; omega,fun t ht=>?_⟩
  obtain ⟨i,hi,rfl⟩:=List.mem_map.mp ht
  have hi:=List.mem_range.mp hi
  refine ⟨by rw [List.length_map,List.length_map,List.length_range]; omega,fun t ht=>?_⟩
  obtain ⟨x,hx,rfl⟩:=List.mem_map.mp ht
  obtain ⟨j,hj,rfl⟩:=List.mem_map.mp hx
  have hj:=List.mem_range.mp hj
  have:=hb i j (by omega) (by omega)
  show (G 0 0 - G i j).natAbs≤1000000000000
  omega
def Ar (K:PySem.W.Frag):Sp:=fun vs H Q _=>∃ (a:Addr) (ns:List Int),vs=[.ref a]∧SqL K H a (ns.map V.int)∧ns.length≤63∧∀ H',Q (.bl true) H'
structure LS (H:Hp) (b q1 q2 qw qp t:Addr) (xs ys:List Str) (us:List V) (ps:List (Str × Str)) (ns:List Int) (tt:Th):Prop where
 p:cj b H
 d:jB H q1 q2 qw qp xs ys us ps ns
 t:TgV [b] H (.ref t) tt
theorem LS.old {H H':Hp} {b q1 q2 qw qp t:Addr} {xs ys:List Str} {us:List V} {ps:List (Str × Str)} {ns:List Int} {tt:Th} (h:LS H b q1 q2 qw qp t xs ys us ps ns tt) (p:cj b H') (o:eX b H H'):LS H' b q1 q2 qw qp t xs ys us ps ns tt :=
 ⟨p,⟨o.tup h.p _ _ h.d.e1,o.tup h.p _ _ h.d.e2,h.d.l1,h.d.l2,h.d.a1,h.d.a2,o.tup h.p _ _ h.d.ew,h.d.ul,h.d.P.keepT (o.tup h.p),o.tup h.p _ _ h.d.ep,h.d.n5,h.d.pb⟩,Df h.p o h.t⟩
theorem LS.same {H H':Hp} {b q1 q2 qw qp t:Addr} {xs ys:List Str} {us:List V} {ps:List (Str × Str)} {ns:List Int} {tt:Th} (h:LS H b q1 q2 qw qp t xs ys us ps ns tt) (s:Same H H'):LS H' b q1 q2 qw qp t xs ys us ps ns tt:=h.old (h.p.same s) (.of s)
theorem Gk {b:Bool} {A B:Prop} (h:b=false) (k:B):if b=true then A else B:=by
 subst h
 exact k
theorem isF {b:Bool} {p:Prop} (h:b=true↔p) (n:¬ p):(!(b == false))=false:=by
 cases b with
 | true=>exact absurd (h.mp rfl) n
 | false=>rfl
section
open M01
variable {P:Program} {w:World} {K:PySem.W.Frag} {mg:Str→Option Value} {base:Heap}
theorem oF:aP ["_law_script", "_law_pot", "_law_ones", "_law_others", "_law_known_here", "_law_prices_here", "_law_told", "_law_k", "_law_thing"] ["_law_script"] (au Bo):=⟨rfl,rfl,rfl,by decide +kernel,rfl,by decide +kernel,by decide +kernel⟩
theorem Ji {f:Addr} {fd:FuncData} (F:Fun K "law" "law" Bo f fd) (C_state:Cal P w K mg base "_law_state" 1 ["_law_script"] (wz K)) (C_drawn:Cal P w K mg base "_law_drawn" 4 ["_law_pot", "_law_most"] wF) (C_right:Cal P w K mg base "_law_right" 4 ["_law_pot", "_law_sides_here", "_law_known_here", "_law_prices_here", "_law_m", "_law_n"] zJ) (C_sides:Cal P w K mg base "_law_sides" 2 ["_law_ones", "_law_others"] wj) (C_shows_found:Cal P w K mg base "shows_found" 7 ["ones", "others", "words", "prices", "told"] vR) (C_spoilt:Cal P w K mg base "_law_spoilt" 8 ["_law_pot", "_law_thing", "_law_deep"] (Jx 7)) (m_len:mg "len" = none) (m_range:mg "range" = none) (m_list:mg "list" = none):n8 P w K mg base CX0 9 f fd ["_law_script"] (Ar K):=by
 refine F.ok oF (fun vs H Q E hs=>?_) (fun cdv A outer s H vs Q E hr hs=>?_)
 ·obtain ⟨a,ns,rfl,_⟩:=hs
  rfl
 obtain ⟨a,ns,rfl,hS,h63,k⟩:=hs
 refine qex ⟨_,(g8 ⟨(aW (i:=1) oF.nd rfl (Or.inl rfl) (aK C_state hr (by decide) rfl (aj (pv 0) ao)))⟩
  (g8 ⟨(jO (aK C_drawn hr (by decide) rfl (aj (pv 1) (aj aA ao))) (cR (n:=4) rfl (aL (aD (i:=2) oF.nd rfl (Or.inl rfl)) (aL (aD (i:=3) oF.nd rfl (Or.inl rfl)) (aL (aD (i:=4) oF.nd rfl (Or.inl rfl)) (aL (aD (i:=5) oF.nd rfl (Or.inl rfl)) bU))))))⟩
  (g8 ⟨(aW (i:=6) oF.nd rfl (Or.inl rfl) (aK C_right hr (by decide) rfl (aj (pv 1) (aj (aK C_sides hr (by decide) rfl (aj (pv 2) (aj (pv 3) ao))) (aj (pv 4) (aj (pv 5) (aj (aG aQ rfl m_len PySem.boot_len (aj (pv 2) ao)) (aj (aG aQ rfl m_len PySem.boot_len (aj (pv 3) ao)) ao))))))))⟩
  (g8 ⟨(dW (aY iM (aK C_shows_found hr (by decide) rfl (aj (pv 2) (aj (pv 3) (aj (pv 4) (aj (pv 5) (aj (pv 6) ao)))))) gn (bG _))
   (aC (aR gn))
   bK)⟩
  (g8 ⟨(cW PassesOwn.never rfl (dH rfl m_range (aj aA ao)) (aD (i:=7) oF.nd rfl (Or.inl rfl))
   (aC (dW (aY iM (aK C_shows_found hr (by decide) rfl (aj (pv 2) (aj (pv 3) (aj (pv 4) (aj (pv 5) (aj (aK C_spoilt hr (by decide) rfl (aj (pv 1) (aj (pv 6) (aj aA ao)))) ao)))))) gn (bG _))
   (aC (aR gn))
   bK)))⟩
  (g8 (Hs PassesOwn.never rfl (GD (Jo (Af ⟨tu⟩ (Af ⟨gn⟩ (Af ⟨aA⟩ (Af ⟨bL⟩ (Af ⟨(bD ao)⟩ (Af ⟨(cU ao)⟩ (Af ⟨tL⟩ (Af ⟨(bV jN rfl m_list boot_list (aj (pv 6) ao))⟩ (Af ⟨(bD (aj (pv 6) ao))⟩ (Af ⟨(aX je (pv 6) (pv 6))⟩ Jv)))))))))))) (aD (i:=8) oF.nd rfl (Or.inl rfl))
   (yJ ⟨(dW (aY iM (aK C_shows_found hr (by decide) rfl (aj (pv 2) (aj (pv 3) (aj (pv 4) (aj (pv 5) (aj (pv 8) ao)))))) gn (bG _))
   (aC (aR gn))
   bK)⟩))
  (yJ ⟨(aR (gK Bl (aK C_shows_found hr (by decide) rfl (aj (pv 2) (aj (pv 3) (aj (pv 4) (aj (pv 5) (aj (pv 6) ao)))))) gn (bG _)))⟩))))))),?_⟩
 refine ⟨_,rfl,a,ns,rfl,hS,h63,fun b H1 s1 p1=>gN ?_⟩
 refine ⟨_,rfl,b,5,rfl,p1,by decide,fun t q1 q2 qw qp xs ys us ps ns' H2 p2 et hD=>?_⟩
 refine ⟨t,_,rfl,SqT.of et,rfl,_,_,rfl,_,_,rfl,_,_,rfl,_,_,rfl,rfl,?_⟩
 clear p1 s1 hS et
 have hl1:=hD.l1
 have hl2:=hD.l2
 have lx:∀ x∈xs,x.length≤1000:=fun x h=>(hD.a1 x h).l
 have ly:∀ x∈ys,x.length≤1000:=fun x h=>(hD.a2 x h).l
 refine ⟨_,rfl,_,rfl,_,rfl,q1,q2,xs,ys,rfl,hD.e1,hD.e2,by omega,by omega,hD.a1,hD.a2,fun ls la lb H3 s3 el sa1 sb1=>?_⟩
 have hD3:=hD.same s3
 have hul:=hD.ul
 have p3:=p2.same s3
 clear hD p2 s3
 refine ⟨_,rfl,_,rfl,_,rfl,q1,_,rfl,.inr (SqT.of hD3.e1),_,rfl,q2,_,rfl,.inr (SqT.of hD3.e2),?_⟩
 rw [List.length_map,List.length_map]
 refine ⟨b,ls,la,lb,qw,qp,xs,ys,us,ps,ns',rfl,p3,⟨el,sa1,sb1,lx,ly,hD3.ew,by omega,hD3.P,hD3.ep,hD3.n5⟩,by omega,by omega,fun t6 w6 g6 G way wus gus H6 p6 o6 hT hO hSh=>gN ?_⟩
 have hpl:ps.length≤1000:=by
  have:=hD3.P.1
  omega
 have hLf:=Ey (w:=way) hO (fun i j s hs=>BW hD3.pb lx ly hpl hs) hl1 hl2 hSh.thru
 have hSp:∀ (k:Nat) (t':Th),Spo k (thT xs.length ys.length (G 0 0) way (fun i j=>G 0 0 - G i j)) t'→PW t'∧¬ yM xs.length ys.length (bx ns' xs ys ps) t':=fun k t' h=>BJ hSh.thru h
 have hPW:PW (thT xs.length ys.length (G 0 0) way (fun i j=>G 0 0 - G i j)):=fun a b d e _=>by
  obtain ⟨_,rfl,_⟩:=Gr e
  exact ⟨way,rfl,nF hSh.thru⟩
 have hSW:yM xs.length ys.length (bx ns' xs ys ps) (thT xs.length ys.length (G 0 0) way (fun i j=>G 0 0 - G i j)):=⟨_,_,_,rfl,hSh⟩
 obtain ⟨ts,ets,hts⟩:∃ ts,thT xs.length ys.length (G 0 0) way (fun i j=>G 0 0 - G i j)=.tup ts∧ts.length=3:=⟨_,rfl,rfl⟩
 have hA:LS H6 b q1 q2 qw qp t6 xs ys us ps ns' (thT xs.length ys.length (G 0 0) way (fun i j=>G 0 0 - G i j)):=⟨p6,⟨o6.tup p3 _ _ hD3.e1,o6.tup p3 _ _ hD3.e2,hl1,hl2,hD3.a1,hD3.a2,o6.tup p3 _ _ hD3.ew,hul,hD3.P.keepT (o6.tup p3),o6.tup p3 _ _ hD3.ep,hD3.n5,hD3.pb⟩,Fd hT⟩
 clear hT hO p3 el sa1 sb1 p6 o6 hD3 hSh
 generalize thT xs.length ys.length (G 0 0) way (fun i j=>G 0 0 - G i j)=tt at hLf hSp hPW hSW hA ets
 refine ⟨_,rfl,_,rfl,_,rfl,_,rfl,_,rfl,q1,q2,qw,qp,_,xs,ys,us,ps,ns',[b],tt,rfl,hA.d.e1,hA.d.e2,by omega,by omega,lx,ly,hA.d.ew,by omega,hA.d.P,hA.d.ep,hA.d.n5,hA.t,rz hLf,hPW,fun b2 H7 s7 hb=>⟨_,_,rfl,rfl,_,rfl,Gk (by rw [hb.mpr hSW]; rfl) ?_⟩⟩
 clear hb
 replace hA:=hA.same s7
 clear s7
 refine ⟨8,rfl,by omega,by omega,?_⟩
 refine gZ (lo:=0) (n:=8) (fun y σ H8=>∃ v7:Option V,σ=[some (.ref a),some (.ref b),some (.ref q1),some (.ref q2),some (.ref qw),some (.ref qp),some (.ref t6),v7,none]∧LS H8 b q1 q2 qw qp t6 xs ys us ps ns' tt) ⟨_,rfl,hA⟩ ?_ ?_
 ·rintro y σ H8 hy ⟨v7,rfl,hA⟩
  refine gN ⟨_,rfl,_,rfl,_,rfl,_,rfl,_,rfl,_,rfl,b,.ref t6,tt,5,rfl,hA.p,hA.t,hLf,fun v' t' H9 p9 o9 hv' hsp=>?_⟩
  have hA9:=hA.old p9 o9
  obtain ⟨h1,h2⟩:=hSp _ _ hsp
  exact ⟨q1,q2,qw,qp,_,xs,ys,us,ps,ns',[b],t',rfl,hA9.d.e1,hA9.d.e2,by omega,by omega,lx,ly,hA9.d.ew,by omega,hA9.d.P,hA9.d.ep,hA9.d.n5,hv',CV hLf hsp,h1,fun b2 Ha sa hb=>⟨_,_,rfl,rfl,_,rfl,Gk (isF hb h2) ⟨_,rfl,hA9.same sa⟩⟩⟩
 clear hA
 rintro σ H8 ⟨v7,rfl,hA⟩
 obtain ⟨t6',us6,e6',e6,d6⟩:=fO (ets ▸ hA.t)
 cases e6'
 have hl6:=d6.len
 refine ⟨smn 0,fun t9 ht9=>?_⟩
 have s9:=aq ht9 (.tup [])
 have e9:(upd H8 t9 (.tup [])) t9=some (.tup []):=ak
 generalize upd H8 t9 (.tup [])=H9 at s9 e9
 have p9:=hA.p.same s9
 refine ⟨smn 0,fun l10 hl10=>?_⟩
 have n10:l10≠b:=p9.ne hl10
 have s10:=aq hl10 (.lst [])
 have e10:(upd H9 l10 (.lst [])) l10=some (.lst []):=ak
 generalize upd H9 l10 (.lst [])=H10 at s10 e10
 have p10:=p9.same s10
 refine fun d11 hd11=>?_
 have n11:d11≠b:=p10.ne hd11
 have s11:=aq hd11 (.dK [])
 have e11:(upd H10 d11 (.dK [])) d11=some (.dK []):=ak
 generalize upd H10 d11 (.dK [])=H11 at s11 e11
 have s811:=(s9.trans s10).trans s11
 refine ⟨_,rfl,t6,us6,rfl,.inr (SqT.of (s811 _ _ e6)),fun l12 hl12=>?_⟩
 have n12:l12≠b:=(p10.same s11).ne hl12
 have s12:=aq hl12 (.lst us6)
 have e12:(upd H11 l12 (.lst us6)) l12=some (.lst us6):=ak
 generalize upd H11 l12 (.lst us6)=H12 at s12 e12
 refine ⟨_,rfl,smn 1,fun t13 ht13=>?_⟩
 have s13:=aq ht13 (.tup [.ref t6])
 have e13:(upd H12 t13 (.tup [.ref t6])) t13=some (.tup [.ref t6]):=ak
 generalize upd H12 t13 (.tup [.ref t6])=H13 at s13 e13
 have s813:=(s811.trans s12).trans s13
 refine ⟨_,rfl,_,rfl,t6,t6,_,_,rfl,rfl,s813 _ _ e6,s813 _ _ e6,small (by rw [hl6,hts]; decide),fun p14 H14 s14 e14=>⟨smn 10,fun ll hll=>?_⟩⟩
 have s15:=aq hll (.lst [.non,.bl true,.int 0,.str "",.ref t9,.ref l10,.ref d11,.ref l12,.ref t13,.ref p14])
 have e15:(upd H14 ll (.lst [.non,.bl true,.int 0,.str "",.ref t9,.ref l10,.ref d11,.ref l12,.ref t13,.ref p14])) ll=some (.lst [.non,.bl true,.int 0,.str "",.ref t9,.ref l10,.ref d11,.ref l12,.ref t13,.ref p14]):=ak
 generalize upd H14 ll (.lst [.non,.bl true,.int 0,.str "",.ref t9,.ref l10,.ref d11,.ref l12,.ref t13,.ref p14])=H15 at s15 e15
 have s1415:=s14.trans s15
 have s815:=s813.trans s1415
 have hA15:=hA.same s815
 have hLt:∀ d,LG d tt:=fun d=>rz hLf
 have hth:∀ v∈[V.non,.bl true,.int 0,.str "",.ref t9,.ref l10,.ref d11,.ref l12,.ref t13,.ref p14],∃ t',TgV [b] H15 v t'∧LG 5 t'∧∀ x y z,t'≠.tup [x,y,z]:=by
  intro v hv
  simp only [List.mem_cons,List.not_mem_nil,or_false] at hv
  rcases hv with rfl | rfl | rfl | rfl | rfl | rfl | rfl | rfl | rfl | rfl
  ·exact ⟨.non,rfl,trivial,fun _ _ _ z=>nomatch z⟩
  ·exact ⟨.bl true,rfl,trivial,fun _ _ _ z=>nomatch z⟩
  ·exact ⟨.int 0,rfl,trivial,fun _ _ _ z=>nomatch z⟩
  ·exact ⟨.str "",rfl,trivial,fun _ _ _ z=>nomatch z⟩
  ·exact ⟨.tup [],⟨t9,_,rfl,((((s10.trans s11).trans s12).trans s13).trans s1415) _ _ e9,trivial⟩,⟨Nat.zero_le _,fun _ h=>nomatch h⟩,fun _ _ _ z=>nomatch z⟩
  ·exact ⟨.lst,⟨l10,_,rfl,fun z=>n10 (List.mem_singleton.mp z),(((s11.trans s12).trans s13).trans s1415) _ _ e10⟩,trivial,fun _ _ _ z=>nomatch z⟩
  ·exact ⟨.dct,⟨d11,_,rfl,fun z=>n11 (List.mem_singleton.mp z),((s12.trans s13).trans s1415) _ _ e11⟩,trivial,fun _ _ _ z=>nomatch z⟩
  ·exact ⟨.lst,⟨l12,_,rfl,fun z=>n12 (List.mem_singleton.mp z),(s13.trans s1415) _ _ e12⟩,trivial,fun _ _ _ z=>nomatch z⟩
  ·refine ⟨.tup [tt],⟨t13,_,rfl,s1415 _ _ e13,JZ hA15.t⟩,u9 (by show 1≤900; decide) fun t ht=>?_,fun _ _ _ z=>nomatch z⟩
   rw [List.mem_singleton.mp ht]
   exact hLt
  ·refine ⟨.tup (ts++ts),⟨p14,_,rfl,s15 _ _ e14,(d6.same s815).app (d6.same s815)⟩,u9 (by rw [List.length_append,hts]; decide) fun t ht d=>?_,fun x y z h=>?_⟩
   ·have ht:t∈ts:=by simpa using ht
    have:=hLt (d+1)
    rw [ets] at this
    exact this.2 t ht
   ·have:=congrArg List.length (Th.tup.inj h)
    rw [List.length_append,hts] at this
    cases this
 refine ⟨ll,rfl,⟨_,SqL.of e15⟩,?_⟩
 refine ji (K:=K) (a:=ll) (xs:=[V.non,.bl true,.int 0,.str "",.ref t9,.ref l10,.ref d11,.ref l12,.ref t13,.ref p14]) (fun y σ H'=>∃ v8:Option V,σ=[some (.ref a),some (.ref b),some (.ref q1),some (.ref q2),some (.ref qw),some (.ref qp),some (.ref t6),v7,v8]∧Same H15 H') ⟨_,rfl,Same.refl _⟩ ?_ ?_ ?_
 ·rintro y σ H' _ ⟨_,_,s⟩
  exact SqL.of (s _ _ e15)
 ·rintro y v σ H' hy ⟨v8,rfl,s16⟩
  obtain ⟨t',h1,h2,h3⟩:=hth v (List.mem_of_getElem? hy)
  have hA16:=hA15.same s16
  refine gN ⟨_,rfl,_,rfl,_,rfl,_,rfl,_,rfl,q1,q2,qw,qp,_,xs,ys,us,ps,ns',[b],t',rfl,hA16.d.e1,hA16.d.e2,by omega,by omega,lx,ly,hA16.d.ew,by omega,hA16.d.P,hA16.d.ep,hA16.d.n5,h1.same s16,h2,(fun x y z e=>absurd e (h3 x y z)),fun b2 Ha sa hb=>⟨_,_,rfl,rfl,_,rfl,Gk (isF hb ?_) ⟨_,rfl,s16.trans sa⟩⟩⟩
  rintro ⟨_,_,_,e,_⟩
  exact h3 _ _ _ e
 ·rintro σ H' ⟨v8,rfl,s16⟩
  have hA16:=hA15.same s16
  refine ⟨_,rfl,_,rfl,_,rfl,_,rfl,_,rfl,q1,q2,qw,qp,_,xs,ys,us,ps,ns',[b],tt,rfl,hA16.d.e1,hA16.d.e2,by omega,by omega,lx,ly,hA16.d.ew,by omega,hA16.d.P,hA16.d.ep,hA16.d.n5,hA16.t,rz hLf,hPW,fun b2 Ha sa hb=>⟨_,_,rfl,rfl,?_⟩⟩
  have e:(b2 == true)=true:=by rw [hb.mpr hSW]; rfl
  rw [e]
  exact k Ha
end
theorem all_mk {l:PySem.W.OpenLaw} {w:World} {K:PySem.W.Frag} {h:Heap} {mg:Str→Option Value} {fa f1 f2 f3 f4 f5 f6 f7 f8 f9 f10 f11 f12 f13 f14 f15 f16 f17 f18 f19 f20 f21 f22 f23 f24 f25 f26 f27 f28 f29 f30 f31 f32 f33 f34 f35 f36 f37 f38 f39 f40 f41 f42 f43 f44 f45 f46 f47:Addr} (X:K.In h) (G:h.Ns mainGlobals mg) (hfa:mg "law" = some (.ref fa))
  {od1 an1 od2 an2 od3 an3 od4 an4 od5 an5 od6 an6 od7 an7 od8 an8 od9 an9 od10 an10 od11 an11 od12 an12 od13 an13 od14 an14 od15 an15 od16 an16 od17 an17 od18 an18 od19 an19 od20 an20 od21 an21 od22 an22 od23 an23 od24 an24 od25 an25 od26 an26 od27 an27 od28 an28 od29 an29 od30 an30 od31 an31 od32 an32 od33 an33 od34 an34 od35 an35 od36 an36 od37 an37 od38 an38 od39 an39 od40 an40 od41 an41 od42 an42 od43 an43 od44 an44 od45 an45 od46 an46 od47 an47:Option Addr} {sl1 sl2 sl3 sl4 sl5 sl6 sl7 sl8 sl9 sl10 sl11 sl12 sl13 sl14 sl15 sl16 sl17 sl18 sl19 sl20 sl21 sl22 sl23 sl24 sl25 sl26 sl27 sl28 sl29 sl30 sl31 sl32 sl33 sl34 sl35 sl36 sl37 sl38 sl39 sl40 sl41 sl42 sl43 sl44 sl45 sl46 sl47:Array (Option Value)} {oc1 kV1 dc1 pm1 cd1 ct1 oc2 kV2 dc2 pm2 cd2 ct2 oc3 kV3 dc3 pm3 cd3 ct3 oc4 kV4 dc4 pm4 cd4 ct4 oc5 kV5 dc5 pm5 cd5 ct5 oc6 kV6 dc6 pm6 cd6 ct6 oc7 kV7 dc7 pm7 cd7 ct7 oc8 kV8 dc8 pm8 cd8 ct8 oc9 kV9 dc9 pm9 cd9 ct9 oc10 kV10 dc10 pm10 cd10 ct10 oc11 kV11 dc11 pm11 cd11 ct11 oc12 kV12 dc12 pm12 cd12 ct12 oc13 kV13 dc13 pm13 cd13 ct13 oc14 kV14 dc14 pm14 cd14 ct14 oc15 kV15 dc15 pm15 cd15 ct15 oc16 kV16 dc16 pm16 cd16 ct16 oc17 kV17 dc17 pm17 cd17 ct17 oc18 kV18 dc18 pm18 cd18 ct18 oc19 kV19 dc19 pm19 cd19 ct19 oc20 kV20 dc20 pm20 cd20 ct20 oc21 kV21 dc21 pm21 cd21 ct21 oc22 kV22 dc22 pm22 cd22 ct22 oc23 kV23 dc23 pm23 cd23 ct23 oc24 kV24 dc24 pm24 cd24 ct24 oc25 kV25 dc25 pm25 cd25 ct25 oc26 kV26 dc26 pm26 cd26 ct26 oc27 kV27 dc27 pm27 cd27 ct27 oc28 kV28 dc28 pm28 cd28 ct28 oc29 kV29 dc29 pm29 cd29 ct29 oc30 kV30 dc30 pm30 cd30 ct30 oc31 kV31 dc31 pm31 cd31 ct31 oc32 kV32 dc32 pm32 cd32 ct32 oc33 kV33 dc33 pm33 cd33 ct33 oc34 kV34 dc34 pm34 cd34 ct34 oc35 kV35 dc35 pm35 cd35 ct35 oc36 kV36 dc36 pm36 cd36 ct36 oc37 kV37 dc37 pm37 cd37 ct37 oc38 kV38 dc38 pm38 cd38 ct38 oc39 kV39 dc39 pm39 cd39 ct39 oc40 kV40 dc40 pm40 cd40 ct40 oc41 kV41 dc41 pm41 cd41 ct41 oc42 kV42 dc42 pm42 cd42 ct42 oc43 kV43 dc43 pm43 cd43 ct43 oc44 kV44 dc44 pm44 cd44 ct44 oc45 kV45 dc45 pm45 cd45 ct45 oc46 kV46 dc46 pm46 cd46 ct46 oc47 kV47 dc47 pm47 cd47 ct47:Value}
  (a1:PySem.W.nsIn K mainGlobals "is_number" = some (some (.ref f1))) (l1:K.lookup f1=some ⟨oc1,od1,.func (PySem.W.fnOf "is_number" "is_number" (aO fu) (aN fu) (au fu) .none kV1 dc1 pm1 an1 cd1 ct1),sl1⟩) (c1:PySem.W.codeIn K cd1 "is_number" = true) (k1:PySem.W.keepIn K (.ref f1)=true)
  (a2:PySem.W.nsIn K mainGlobals "is_row_of" = some (some (.ref f2))) (l2:K.lookup f2=some ⟨oc2,od2,.func (PySem.W.fnOf "is_row_of" "is_row_of" (aO fV) (aN fV) (au fV) .none kV2 dc2 pm2 an2 cd2 ct2),sl2⟩) (c2:PySem.W.codeIn K cd2 "is_row_of" = true) (k2:PySem.W.keepIn K (.ref f2)=true)
  (a3:PySem.W.nsIn K mainGlobals "are_numbers" = some (some (.ref f3))) (l3:K.lookup f3=some ⟨oc3,od3,.func (PySem.W.fnOf "are_numbers" "are_numbers" (aO cM) (aN cM) (au cM) .none kV3 dc3 pm3 an3 cd3 ct3),sl3⟩) (c3:PySem.W.codeIn K cd3 "are_numbers" = true) (k3:PySem.W.keepIn K (.ref f3)=true)
  (a4:PySem.W.nsIn K mainGlobals "is_grid" = some (some (.ref f4))) (l4:K.lookup f4=some ⟨oc4,od4,.func (PySem.W.fnOf "is_grid" "is_grid" (aO gQ) (aN gQ) (au gQ) .none kV4 dc4 pm4 an4 cd4 ct4),sl4⟩) (c4:PySem.W.codeIn K cd4 "is_grid" = true) (k4:PySem.W.keepIn K (.ref f4)=true)
  (a5:PySem.W.nsIn K mainGlobals "is_word_sign" = some (some (.ref f5))) (l5:K.lookup f5=some ⟨oc5,od5,.func (PySem.W.fnOf "is_word_sign" "is_word_sign" (aO DK) (aN DK) (au DK) .none kV5 dc5 pm5 an5 cd5 ct5),sl5⟩) (c5:PySem.W.codeIn K cd5 "is_word_sign" = true) (k5:PySem.W.keepIn K (.ref f5)=true)
  (a6:PySem.W.nsIn K mainGlobals "words_of" = some (some (.ref f6))) (l6:K.lookup f6=some ⟨oc6,od6,.func (PySem.W.fnOf "words_of" "words_of" (aO jo) (aN jo) (au jo) .none kV6 dc6 pm6 an6 cd6 ct6),sl6⟩) (c6:PySem.W.codeIn K cd6 "words_of" = true) (k6:PySem.W.keepIn K (.ref f6)=true)
  (a7:PySem.W.nsIn K mainGlobals "cores_of" = some (some (.ref f7))) (l7:K.lookup f7=some ⟨oc7,od7,.func (PySem.W.fnOf "cores_of" "cores_of" (aO fD) (aN fD) (au fD) .none kV7 dc7 pm7 an7 cd7 ct7),sl7⟩) (c7:PySem.W.codeIn K cd7 "cores_of" = true) (k7:PySem.W.keepIn K (.ref f7)=true)
  (a8:PySem.W.nsIn K mainGlobals "size_of" = some (some (.ref f8))) (l8:K.lookup f8=some ⟨oc8,od8,.func (PySem.W.fnOf "size_of" "size_of" (aO iz) (aN iz) (au iz) .none kV8 dc8 pm8 an8 cd8 ct8),sl8⟩) (c8:PySem.W.codeIn K cd8 "size_of" = true) (k8:PySem.W.keepIn K (.ref f8)=true)
  (a9:PySem.W.nsIn K mainGlobals "cores_among" = some (some (.ref f9))) (l9:K.lookup f9=some ⟨oc9,od9,.func (PySem.W.fnOf "cores_among" "cores_among" (aO cX) (aN cX) (au cX) .none kV9 dc9 pm9 an9 cd9 ct9),sl9⟩) (c9:PySem.W.codeIn K cd9 "cores_among" = true) (k9:PySem.W.keepIn K (.ref f9)=true)
  (a10:PySem.W.nsIn K mainGlobals "places_known" = some (some (.ref f10))) (l10:K.lookup f10=some ⟨oc10,od10,.func (PySem.W.fnOf "places_known" "places_known" (aO cA) (aN cA) (au cA) .none kV10 dc10 pm10 an10 cd10 ct10),sl10⟩) (c10:PySem.W.codeIn K cd10 "places_known" = true) (k10:PySem.W.keepIn K (.ref f10)=true)
  (a11:PySem.W.nsIn K mainGlobals "hits_of_places" = some (some (.ref f11))) (l11:K.lookup f11=some ⟨oc11,od11,.func (PySem.W.fnOf "hits_of_places" "hits_of_places" (aO cC) (aN cC) (au cC) .none kV11 dc11 pm11 an11 cd11 ct11),sl11⟩) (c11:PySem.W.codeIn K cd11 "hits_of_places" = true) (k11:PySem.W.keepIn K (.ref f11)=true)
  (a12:PySem.W.nsIn K mainGlobals "one_link" = some (some (.ref f12))) (l12:K.lookup f12=some ⟨oc12,od12,.func (PySem.W.fnOf "one_link" "one_link" (aO gb) (aN gb) (au gb) .none kV12 dc12 pm12 an12 cd12 ct12),sl12⟩) (c12:PySem.W.codeIn K cd12 "one_link" = true) (k12:PySem.W.keepIn K (.ref f12)=true)
  (a13:PySem.W.nsIn K mainGlobals "crossed" = some (some (.ref f13))) (l13:K.lookup f13=some ⟨oc13,od13,.func (PySem.W.fnOf "crossed" "crossed" (aO fZ) (aN fZ) (au fZ) .none kV13 dc13 pm13 an13 cd13 ct13),sl13⟩) (c13:PySem.W.codeIn K cd13 "crossed" = true) (k13:PySem.W.keepIn K (.ref f13)=true)
  (a14:PySem.W.nsIn K mainGlobals "passed" = some (some (.ref f14))) (l14:K.lookup f14=some ⟨oc14,od14,.func (PySem.W.fnOf "passed" "passed" (aO gA) (aN gA) (au gA) .none kV14 dc14 pm14 an14 cd14 ct14),sl14⟩) (c14:PySem.W.codeIn K cd14 "passed" = true) (k14:PySem.W.keepIn K (.ref f14)=true)
  (a15:PySem.W.nsIn K mainGlobals "steps_from" = some (some (.ref f15))) (l15:K.lookup f15=some ⟨oc15,od15,.func (PySem.W.fnOf "steps_from" "steps_from" (aO dj) (aN dj) (au dj) .none kV15 dc15 pm15 an15 cd15 ct15),sl15⟩) (c15:PySem.W.codeIn K cd15 "steps_from" = true) (k15:PySem.W.keepIn K (.ref f15)=true)
  (a16:PySem.W.nsIn K mainGlobals "is_link_of_places" = some (some (.ref f16))) (l16:K.lookup f16=some ⟨oc16,od16,.func (PySem.W.fnOf "is_link_of_places" "is_link_of_places" (aO bQ) (aN bQ) (au bQ) .none kV16 dc16 pm16 an16 cd16 ct16),sl16⟩) (c16:PySem.W.codeIn K cd16 "is_link_of_places" = true) (k16:PySem.W.keepIn K (.ref f16)=true)
  (a17:PySem.W.nsIn K mainGlobals "is_row_of_links" = some (some (.ref f17))) (l17:K.lookup f17=some ⟨oc17,od17,.func (PySem.W.fnOf "is_row_of_links" "is_row_of_links" (aO bZ) (aN bZ) (au bZ) .none kV17 dc17 pm17 an17 cd17 ct17),sl17⟩) (c17:PySem.W.codeIn K cd17 "is_row_of_links" = true) (k17:PySem.W.keepIn K (.ref f17)=true)
  (a18:PySem.W.nsIn K mainGlobals "is_way" = some (some (.ref f18))) (l18:K.lookup f18=some ⟨oc18,od18,.func (PySem.W.fnOf "is_way" "is_way" (aO jV) (aN jV) (au jV) .none kV18 dc18 pm18 an18 cd18 ct18),sl18⟩) (c18:PySem.W.codeIn K cd18 "is_way" = true) (k18:PySem.W.keepIn K (.ref f18)=true)
  (a19:PySem.W.nsIn K mainGlobals "measured" = some (some (.ref f19))) (l19:K.lookup f19=some ⟨oc19,od19,.func (PySem.W.fnOf "measured" "measured" (aO eG) (aN eG) (au eG) .none kV19 dc19 pm19 an19 cd19 ct19),sl19⟩) (c19:PySem.W.codeIn K cd19 "measured" = true) (k19:PySem.W.keepIn K (.ref f19)=true)
  (a20:PySem.W.nsIn K mainGlobals "size_of_all" = some (some (.ref f20))) (l20:K.lookup f20=some ⟨oc20,od20,.func (PySem.W.fnOf "size_of_all" "size_of_all" (aO dB) (aN dB) (au dB) .none kV20 dc20 pm20 an20 cd20 ct20),sl20⟩) (c20:PySem.W.codeIn K cd20 "size_of_all" = true) (k20:PySem.W.keepIn K (.ref f20)=true)
  (a21:PySem.W.nsIn K mainGlobals "places_of_all" = some (some (.ref f21))) (l21:K.lookup f21=some ⟨oc21,od21,.func (PySem.W.fnOf "places_of_all" "places_of_all" (aO cN) (aN cN) (au cN) .none kV21 dc21 pm21 an21 cd21 ct21),sl21⟩) (c21:PySem.W.codeIn K cd21 "places_of_all" = true) (k21:PySem.W.keepIn K (.ref f21)=true)
  (a22:PySem.W.nsIn K mainGlobals "measured_cost" = some (some (.ref f22))) (l22:K.lookup f22=some ⟨oc22,od22,.func (PySem.W.fnOf "measured_cost" "measured_cost" (aO cG) (aN cG) (au cG) .none kV22 dc22 pm22 an22 cd22 ct22),sl22⟩) (c22:PySem.W.codeIn K cd22 "measured_cost" = true) (k22:PySem.W.keepIn K (.ref f22)=true)
  (a23:PySem.W.nsIn K mainGlobals "link_cost" = some (some (.ref f23))) (l23:K.lookup f23=some ⟨oc23,od23,.func (PySem.W.fnOf "link_cost" "link_cost" (aO dI) (aN dI) (au dI) .none kV23 dc23 pm23 an23 cd23 ct23),sl23⟩) (c23:PySem.W.codeIn K cd23 "link_cost" = true) (k23:PySem.W.keepIn K (.ref f23)=true)
  (a24:PySem.W.nsIn K mainGlobals "step_cost" = some (some (.ref f24))) (l24:K.lookup f24=some ⟨oc24,od24,.func (PySem.W.fnOf "step_cost" "step_cost" (aO d7) (aN d7) (au d7) .none kV24 dc24 pm24 an24 cd24 ct24),sl24⟩) (c24:PySem.W.codeIn K cd24 "step_cost" = true) (k24:PySem.W.keepIn K (.ref f24)=true)
  (a25:PySem.W.nsIn K mainGlobals "way_cost" = some (some (.ref f25))) (l25:K.lookup f25=some ⟨oc25,od25,.func (PySem.W.fnOf "way_cost" "way_cost" (aO fG) (aN fG) (au fG) .none kV25 dc25 pm25 an25 cd25 ct25),sl25⟩) (c25:PySem.W.codeIn K cd25 "way_cost" = true) (k25:PySem.W.keepIn K (.ref f25)=true)
  (a26:PySem.W.nsIn K mainGlobals "priced_steps" = some (some (.ref f26))) (l26:K.lookup f26=some ⟨oc26,od26,.func (PySem.W.fnOf "priced_steps" "priced_steps" (aO cP) (aN cP) (au cP) .none kV26 dc26 pm26 an26 cd26 ct26),sl26⟩) (c26:PySem.W.codeIn K cd26 "priced_steps" = true) (k26:PySem.W.keepIn K (.ref f26)=true)
  (a27:PySem.W.nsIn K mainGlobals "is_found" = some (some (.ref f27))) (l27:K.lookup f27=some ⟨oc27,od27,.func (PySem.W.fnOf "is_found" "is_found" (aO gj) (aN gj) (au gj) .none kV27 dc27 pm27 an27 cd27 ct27),sl27⟩) (c27:PySem.W.codeIn K cd27 "is_found" = true) (k27:PySem.W.keepIn K (.ref f27)=true)
  (a28:PySem.W.nsIn K mainGlobals "no_step_is_short" = some (some (.ref f28))) (l28:K.lookup f28=some ⟨oc28,od28,.func (PySem.W.fnOf "no_step_is_short" "no_step_is_short" (aO cu) (aN cu) (au cu) .none kV28 dc28 pm28 an28 cd28 ct28),sl28⟩) (c28:PySem.W.codeIn K cd28 "no_step_is_short" = true) (k28:PySem.W.keepIn K (.ref f28)=true)
  (a29:PySem.W.nsIn K mainGlobals "shows_found" = some (some (.ref f29))) (l29:K.lookup f29=some ⟨oc29,od29,.func (PySem.W.fnOf "shows_found" "shows_found" (aO cY) (aN cY) (au cY) .none kV29 dc29 pm29 an29 cd29 ct29),sl29⟩) (c29:PySem.W.codeIn K cd29 "shows_found" = true) (k29:PySem.W.keepIn K (.ref f29)=true)
  (a30:PySem.W.nsIn K mainGlobals "_law_next" = some (some (.ref f30))) (l30:K.lookup f30=some ⟨oc30,od30,.func (PySem.W.fnOf "_law_next" "_law_next" (aO qU) (aN qU) (au qU) .none kV30 dc30 pm30 an30 cd30 ct30),sl30⟩) (c30:PySem.W.codeIn K cd30 "_law_next" = true) (k30:PySem.W.keepIn K (.ref f30)=true)
  (a31:PySem.W.nsIn K mainGlobals "_law_state" = some (some (.ref f31))) (l31:K.lookup f31=some ⟨oc31,od31,.func (PySem.W.fnOf "_law_state" "_law_state" (aO jP) (aN jP) (au jP) .none kV31 dc31 pm31 an31 cd31 ct31),sl31⟩) (c31:PySem.W.codeIn K cd31 "_law_state" = true) (k31:PySem.W.keepIn K (.ref f31)=true)
  (a32:PySem.W.nsIn K mainGlobals "_law_list" = some (some (.ref f32))) (l32:K.lookup f32=some ⟨oc32,od32,.func (PySem.W.fnOf "_law_list" "_law_list" (aO oZ) (aN oZ) (au oZ) .none kV32 dc32 pm32 an32 cd32 ct32),sl32⟩) (c32:PySem.W.codeIn K cd32 "_law_list" = true) (k32:PySem.W.keepIn K (.ref f32)=true)
  (a33:PySem.W.nsIn K mainGlobals "_law_text" = some (some (.ref f33))) (l33:K.lookup f33=some ⟨oc33,od33,.func (PySem.W.fnOf "_law_text" "_law_text" (aO qO) (aN qO) (au qO) .none kV33 dc33 pm33 an33 cd33 ct33),sl33⟩) (c33:PySem.W.codeIn K cd33 "_law_text" = true) (k33:PySem.W.keepIn K (.ref f33)=true)
  (a34:PySem.W.nsIn K mainGlobals "_law_texts" = some (some (.ref f34))) (l34:K.lookup f34=some ⟨oc34,od34,.func (PySem.W.fnOf "_law_texts" "_law_texts" (aO jL) (aN jL) (au jL) .none kV34 dc34 pm34 an34 cd34 ct34),sl34⟩) (c34:PySem.W.codeIn K cd34 "_law_texts" = true) (k34:PySem.W.keepIn K (.ref f34)=true)
  (a35:PySem.W.nsIn K mainGlobals "_law_known" = some (some (.ref f35))) (l35:K.lookup f35=some ⟨oc35,od35,.func (PySem.W.fnOf "_law_known" "_law_known" (aO lu) (aN lu) (au lu) .none kV35 dc35 pm35 an35 cd35 ct35),sl35⟩) (c35:PySem.W.codeIn K cd35 "_law_known" = true) (k35:PySem.W.keepIn K (.ref f35)=true)
  (a36:PySem.W.nsIn K mainGlobals "_law_prices" = some (some (.ref f36))) (l36:K.lookup f36=some ⟨oc36,od36,.func (PySem.W.fnOf "_law_prices" "_law_prices" (aO gU) (aN gU) (au gU) .none kV36 dc36 pm36 an36 cd36 ct36),sl36⟩) (c36:PySem.W.codeIn K cd36 "_law_prices" = true) (k36:PySem.W.keepIn K (.ref f36)=true)
  (a37:PySem.W.nsIn K mainGlobals "_law_drawn" = some (some (.ref f37))) (l37:K.lookup f37=some ⟨oc37,od37,.func (PySem.W.fnOf "_law_drawn" "_law_drawn" (aO lB) (aN lB) (au lB) .none kV37 dc37 pm37 an37 cd37 ct37),sl37⟩) (c37:PySem.W.codeIn K cd37 "_law_drawn" = true) (k37:PySem.W.keepIn K (.ref f37)=true)
  (a38:PySem.W.nsIn K mainGlobals "_law_cores" = some (some (.ref f38))) (l38:K.lookup f38=some ⟨oc38,od38,.func (PySem.W.fnOf "_law_cores" "_law_cores" (aO kZ) (aN kZ) (au kZ) .none kV38 dc38 pm38 an38 cd38 ct38),sl38⟩) (c38:PySem.W.codeIn K cd38 "_law_cores" = true) (k38:PySem.W.keepIn K (.ref f38)=true)
  (a39:PySem.W.nsIn K mainGlobals "_law_sides" = some (some (.ref f39))) (l39:K.lookup f39=some ⟨oc39,od39,.func (PySem.W.fnOf "_law_sides" "_law_sides" (aO jM) (aN jM) (au jM) .none kV39 dc39 pm39 an39 cd39 ct39),sl39⟩) (c39:PySem.W.codeIn K cd39 "_law_sides" = true) (k39:PySem.W.keepIn K (.ref f39)=true)
  (a40:PySem.W.nsIn K mainGlobals "_law_link" = some (some (.ref f40))) (l40:K.lookup f40=some ⟨oc40,od40,.func (PySem.W.fnOf "_law_link" "_law_link" (aO jA) (aN jA) (au jA) .none kV40 dc40 pm40 an40 cd40 ct40),sl40⟩) (c40:PySem.W.codeIn K cd40 "_law_link" = true) (k40:PySem.W.keepIn K (.ref f40)=true)
  (a41:PySem.W.nsIn K mainGlobals "_law_step" = some (some (.ref f41))) (l41:K.lookup f41=some ⟨oc41,od41,.func (PySem.W.fnOf "_law_step" "_law_step" (aO pF) (aN pF) (au pF) .none kV41 dc41 pm41 an41 cd41 ct41),sl41⟩) (c41:PySem.W.codeIn K cd41 "_law_step" = true) (k41:PySem.W.keepIn K (.ref f41)=true)
  (a42:PySem.W.nsIn K mainGlobals "_law_steps" = some (some (.ref f42))) (l42:K.lookup f42=some ⟨oc42,od42,.func (PySem.W.fnOf "_law_steps" "_law_steps" (aO lC) (aN lC) (au lC) .none kV42 dc42 pm42 an42 cd42 ct42),sl42⟩) (c42:PySem.W.codeIn K cd42 "_law_steps" = true) (k42:PySem.W.keepIn K (.ref f42)=true)
  (a43:PySem.W.nsIn K mainGlobals "_law_on" = some (some (.ref f43))) (l43:K.lookup f43=some ⟨oc43,od43,.func (PySem.W.fnOf "_law_on" "_law_on" (aO sOn) (aN sOn) (au sOn) .none kV43 dc43 pm43 an43 cd43 ct43),sl43⟩) (c43:PySem.W.codeIn K cd43 "_law_on" = true) (k43:PySem.W.keepIn K (.ref f43)=true)
  (a44:PySem.W.nsIn K mainGlobals "_law_left" = some (some (.ref f44))) (l44:K.lookup f44=some ⟨oc44,od44,.func (PySem.W.fnOf "_law_left" "_law_left" (aO lW) (aN lW) (au lW) .none kV44 dc44 pm44 an44 cd44 ct44),sl44⟩) (c44:PySem.W.codeIn K cd44 "_law_left" = true) (k44:PySem.W.keepIn K (.ref f44)=true)
  (a45:PySem.W.nsIn K mainGlobals "_law_right" = some (some (.ref f45))) (l45:K.lookup f45=some ⟨oc45,od45,.func (PySem.W.fnOf "_law_right" "_law_right" (aO jK) (aN jK) (au jK) .none kV45 dc45 pm45 an45 cd45 ct45),sl45⟩) (c45:PySem.W.codeIn K cd45 "_law_right" = true) (k45:PySem.W.keepIn K (.ref f45)=true)
  (a46:PySem.W.nsIn K mainGlobals "_law_spoilt" = some (some (.ref f46))) (l46:K.lookup f46=some ⟨oc46,od46,.func (PySem.W.fnOf "_law_spoilt" "_law_spoilt" (aO iJ) (aN iJ) (au iJ) .none kV46 dc46 pm46 an46 cd46 ct46),sl46⟩) (c46:PySem.W.codeIn K cd46 "_law_spoilt" = true) (k46:PySem.W.keepIn K (.ref f46)=true)
  (a47:PySem.W.nsIn K mainGlobals "law" = some (some (.ref f47))) (l47:K.lookup f47=some ⟨oc47,od47,.func (PySem.W.fnOf "law" "law" (aO Bo) (aN Bo) (au Bo) .none kV47 dc47 pm47 an47 cd47 ct47),sl47⟩) (c47:PySem.W.codeIn K cd47 "law" = true) (k47:PySem.W.keepIn K (.ref f47)=true)
  {t_MORE t_STRETCH t_ANCHOR t_OUT t_CROSS:Tok} (p_MORE:PySem.W.nsIn K mainGlobals "MORE" = some (some (.int 1 t_MORE))) (p_STRETCH:PySem.W.nsIn K mainGlobals "STRETCH" = some (some (.int 3 t_STRETCH))) (p_ANCHOR:PySem.W.nsIn K mainGlobals "ANCHOR" = some (some (.int 4 t_ANCHOR))) (p_OUT:PySem.W.nsIn K mainGlobals "OUT" = some (some (.int 0 t_OUT))) (p_CROSS:PySem.W.nsIn K mainGlobals "CROSS" = some (some (.int 2 t_CROSS)))
  {t_SHAPES e0_SHAPES e1_SHAPES e2_SHAPES e3_SHAPES e4_SHAPES e5_SHAPES e6_SHAPES:Addr} {d0_SHAPES d1_SHAPES d2_SHAPES d3_SHAPES d4_SHAPES d5_SHAPES d6_SHAPES d7_SHAPES:Option Addr} {n0_SHAPES n1_SHAPES n2_SHAPES n3_SHAPES n4_SHAPES n5_SHAPES n6_SHAPES n7_SHAPES:Nat} {l0_SHAPES l1_SHAPES l2_SHAPES l3_SHAPES l4_SHAPES l5_SHAPES l6_SHAPES l7_SHAPES:Array (Option Value)} {u0_SHAPES v0_SHAPES u1_SHAPES v1_SHAPES u2_SHAPES v2_SHAPES u3_SHAPES v3_SHAPES u4_SHAPES v4_SHAPES u5_SHAPES v5_SHAPES u6_SHAPES v6_SHAPES:Tok} (p_SHAPES:PySem.W.nsIn K mainGlobals "SHAPES" = some (some (.ref t_SHAPES))) (y7_SHAPES:K.lookup t_SHAPES=some ⟨.type "tuple",d7_SHAPES,.seq #[.ref e0_SHAPES,.ref e1_SHAPES,.ref e2_SHAPES,.ref e3_SHAPES,.ref e4_SHAPES,.ref e5_SHAPES,.ref e6_SHAPES] n7_SHAPES,l7_SHAPES⟩) (y0_SHAPES:K.lookup e0_SHAPES=some ⟨.type "tuple",d0_SHAPES,.seq #[.int 0 u0_SHAPES,.int 1 v0_SHAPES] n0_SHAPES,l0_SHAPES⟩) (y1_SHAPES:K.lookup e1_SHAPES=some ⟨.type "tuple",d1_SHAPES,.seq #[.int 1 u1_SHAPES,.int 0 v1_SHAPES] n1_SHAPES,l1_SHAPES⟩) (y2_SHAPES:K.lookup e2_SHAPES=some ⟨.type "tuple",d2_SHAPES,.seq #[.int 1 u2_SHAPES,.int 1 v2_SHAPES] n2_SHAPES,l2_SHAPES⟩) (y3_SHAPES:K.lookup e3_SHAPES=some ⟨.type "tuple",d3_SHAPES,.seq #[.int 1 u3_SHAPES,.int 2 v3_SHAPES] n3_SHAPES,l3_SHAPES⟩) (y4_SHAPES:K.lookup e4_SHAPES=some ⟨.type "tuple",d4_SHAPES,.seq #[.int 1 u4_SHAPES,.int 3 v4_SHAPES] n4_SHAPES,l4_SHAPES⟩) (y5_SHAPES:K.lookup e5_SHAPES=some ⟨.type "tuple",d5_SHAPES,.seq #[.int 2 u5_SHAPES,.int 1 v5_SHAPES] n5_SHAPES,l5_SHAPES⟩) (y6_SHAPES:K.lookup e6_SHAPES=some ⟨.type "tuple",d6_SHAPES,.seq #[.int 3 u6_SHAPES,.int 1 v6_SHAPES] n6_SHAPES,l6_SHAPES⟩)
  (z_len:PySem.W.nsIn K mainGlobals "len" = some none) (z_int:PySem.W.nsIn K mainGlobals "int" = some none) (z_range:PySem.W.nsIn K mainGlobals "range" = some none) (z_isinstance:PySem.W.nsIn K mainGlobals "isinstance" = some none) (z_tuple:PySem.W.nsIn K mainGlobals "tuple" = some none) (z_bool:PySem.W.nsIn K mainGlobals "bool" = some none) (z_sum:PySem.W.nsIn K mainGlobals "sum" = some none) (z_abs:PySem.W.nsIn K mainGlobals "abs" = some none) (z_max:PySem.W.nsIn K mainGlobals "max" = some none) (z_set:PySem.W.nsIn K mainGlobals "set" = some none) (z_enumerate:PySem.W.nsIn K mainGlobals "enumerate" = some none) (z_any:PySem.W.nsIn K mainGlobals "any" = some none) (z_sorted:PySem.W.nsIn K mainGlobals "sorted" = some none) (z_min:PySem.W.nsIn K mainGlobals "min" = some none) (z_all:PySem.W.nsIn K mainGlobals "all" = some none) (z_list:PySem.W.nsIn K mainGlobals "list" = some none) (z_str:PySem.W.nsIn K mainGlobals "str" = some none) :
  ∃ fd:FuncData,(∀ (s:Shared) (v:Value),BindsTo s fd ⟨[v],[]⟩ [("_law_script",v)])∧∀ base:Heap,K.In base→base.Ns mainGlobals mg→n8 l.prog w K mg base CX0 9 fa fd ["_law_script"] (Ar K):=by
 have e:=hfa.symm.trans (PySem.W.mg_of X G a47)
 cases e
 have F1:=bC (st:=fu) l1 c1 k1
 have h_is_number:Has K mg "is_number" fu ["thing"]:=⟨_,_,F1,F1.binds fun _ _ _ _ _ _ us hl=>match us,hl with | [_],_=>rfl,PySem.W.mg_of X G a1⟩
 have F2:=bC (st:=fV) l2 c2 k2
 have h_is_row_of:Has K mg "is_row_of" fV ["thing", "count"]:=⟨_,_,F2,F2.binds fun _ _ _ _ _ _ us hl=>match us,hl with | [_,_],_=>rfl,PySem.W.mg_of X G a2⟩
 have F3:=bC (st:=cM) l3 c3 k3
 have h_are_numbers:Has K mg "are_numbers" cM ["thing"]:=⟨_,_,F3,F3.binds fun _ _ _ _ _ _ us hl=>match us,hl with | [_],_=>rfl,PySem.W.mg_of X G a3⟩
 have F4:=bC (st:=gQ) l4 c4 k4
 have h_is_grid:Has K mg "is_grid" gQ ["thing", "rows", "columns"]:=⟨_,_,F4,F4.binds fun _ _ _ _ _ _ us hl=>match us,hl with | [_,_,_],_=>rfl,PySem.W.mg_of X G a4⟩
 have F5:=bC (st:=DK) l5 c5 k5
 have h_isw:Has K mg "is_word_sign" DK ["sign"]:=⟨_,_,F5,F5.binds fun _ _ _ _ _ _ us hl=>match us,hl with | [_],_=>rfl,PySem.W.mg_of X G a5⟩
 have F6:=bC (st:=jo) l6 c6 k6
 have h_words:Has K mg "words_of" jo ["text"]:=⟨_,_,F6,F6.binds fun _ _ _ _ _ _ us hl=>match us,hl with | [_],_=>rfl,PySem.W.mg_of X G a6⟩
 have F7:=bC (st:=fD) l7 c7 k7
 have h_cores:Has K mg "cores_of" fD ["text"]:=⟨_,_,F7,F7.binds fun _ _ _ _ _ _ us hl=>match us,hl with | [_],_=>rfl,PySem.W.mg_of X G a7⟩
 have F8:=bC (st:=iz) l8 c8 k8
 have h_size_of:Has K mg "size_of" iz ["text"]:=⟨_,_,F8,F8.binds fun _ _ _ _ _ _ us hl=>match us,hl with | [_],_=>rfl,PySem.W.mg_of X G a8⟩
 have F9:=bC (st:=cX) l9 c9 k9
 have h_cores_among:Has K mg "cores_among" cX ["texts"]:=⟨_,_,F9,F9.binds fun _ _ _ _ _ _ us hl=>match us,hl with | [_],_=>rfl,PySem.W.mg_of X G a9⟩
 have F10:=bC (st:=cA) l10 c10 k10
 have h_places_known:Has K mg "places_known" cA ["texts", "words", "side"]:=⟨_,_,F10,F10.binds fun _ _ _ _ _ _ us hl=>match us,hl with | [_,_,_],_=>rfl,PySem.W.mg_of X G a10⟩
 have F11:=bC (st:=cC) l11 c11 k11
 have h_hits_of_places:Has K mg "hits_of_places" cC ["left", "right"]:=⟨_,_,F11,F11.binds fun _ _ _ _ _ _ us hl=>match us,hl with | [_,_],_=>rfl,PySem.W.mg_of X G a11⟩
 have F12:=bC (st:=gb) l12 c12 k12
 have h_one_link:Has K mg "one_link" gb ["i", "j", "shape"]:=⟨_,_,F12,F12.binds fun _ _ _ _ _ _ us hl=>match us,hl with | [_,_,_],_=>rfl,PySem.W.mg_of X G a12⟩
 have F13:=bC (st:=fZ) l13 c13 k13
 have h_crossed:Has K mg "crossed" fZ ["i", "j"]:=⟨_,_,F13,F13.binds fun _ _ _ _ _ _ us hl=>match us,hl with | [_,_],_=>rfl,PySem.W.mg_of X G a13⟩
 have F14:=bC (st:=gA) l14 c14 k14
 have h_passed:Has K mg "passed" gA ["step"]:=⟨_,_,F14,F14.binds fun _ _ _ _ _ _ us hl=>match us,hl with | [_],_=>rfl,PySem.W.mg_of X G a14⟩
 have F15:=bC (st:=dj) l15 c15 k15
 have h_steps_from:Has K mg "steps_from" dj ["i", "j", "m", "n"]:=⟨_,_,F15,F15.binds fun _ _ _ _ _ _ us hl=>match us,hl with | [_,_,_,_],_=>rfl,PySem.W.mg_of X G a15⟩
 have F16:=bC (st:=bQ) l16 c16 k16
 have h_is_link_of_places:Has K mg "is_link_of_places" bQ ["thing"]:=⟨_,_,F16,F16.binds fun _ _ _ _ _ _ us hl=>match us,hl with | [_],_=>rfl,PySem.W.mg_of X G a16⟩
 have F17:=bC (st:=bZ) l17 c17 k17
 have h_is_row_of_links:Has K mg "is_row_of_links" bZ ["thing"]:=⟨_,_,F17,F17.binds fun _ _ _ _ _ _ us hl=>match us,hl with | [_],_=>rfl,PySem.W.mg_of X G a17⟩
 have F18:=bC (st:=jV) l18 c18 k18
 have h_is_way:Has K mg "is_way" jV ["thing", "m", "n"]:=⟨_,_,F18,F18.binds fun _ _ _ _ _ _ us hl=>match us,hl with | [_,_,_],_=>rfl,PySem.W.mg_of X G a18⟩
 have F19:=bC (st:=eG) l19 c19 k19
 have h_measured:Has K mg "measured" eG ["texts", "words", "side"]:=⟨_,_,F19,F19.binds fun _ _ _ _ _ _ us hl=>match us,hl with | [_,_,_],_=>rfl,PySem.W.mg_of X G a19⟩
 have F20:=bC (st:=dB) l20 c20 k20
 have h_size_of_all:Has K mg "size_of_all" dB ["texts"]:=⟨_,_,F20,F20.binds fun _ _ _ _ _ _ us hl=>match us,hl with | [_],_=>rfl,PySem.W.mg_of X G a20⟩
 have F21:=bC (st:=cN) l21 c21 k21
 have h_places_of_all:Has K mg "places_of_all" cN ["texts"]:=⟨_,_,F21,F21.binds fun _ _ _ _ _ _ us hl=>match us,hl with | [_],_=>rfl,PySem.W.mg_of X G a21⟩
 have F22:=bC (st:=cG) l22 c22 k22
 have h_measured_cost:Has K mg "measured_cost" cG ["ones", "others", "prices"]:=⟨_,_,F22,F22.binds fun _ _ _ _ _ _ us hl=>match us,hl with | [_,_,_],_=>rfl,PySem.W.mg_of X G a22⟩
 have F23:=bC (st:=dI) l23 c23 k23
 have h_link_cost:Has K mg "link_cost" dI ["link", "left", "right", "prices"]:=⟨_,_,F23,F23.binds fun _ _ _ _ _ _ us hl=>match us,hl with | [_,_,_,_],_=>rfl,PySem.W.mg_of X G a23⟩
 have F24:=bC (st:=d7) l24 c24 k24
 have h_step_cost:Has K mg "step_cost" d7 ["step", "left", "right", "prices"]:=⟨_,_,F24,F24.binds fun _ _ _ _ _ _ us hl=>match us,hl with | [_,_,_,_],_=>rfl,PySem.W.mg_of X G a24⟩
 have F25:=bC (st:=fG) l25 c25 k25
 have h_way_cost:Has K mg "way_cost" fG ["way", "left", "right", "prices"]:=⟨_,_,F25,F25.binds fun _ _ _ _ _ _ us hl=>match us,hl with | [_,_,_,_],_=>rfl,PySem.W.mg_of X G a25⟩
 have F26:=bC (st:=cP) l26 c26 k26
 have h_priced_steps:Has K mg "priced_steps" cP ["i", "j", "left", "right", "prices"]:=⟨_,_,F26,F26.binds fun _ _ _ _ _ _ us hl=>match us,hl with | [_,_,_,_,_],_=>rfl,PySem.W.mg_of X G a26⟩
 have F27:=bC (st:=gj) l27 c27 k27
 have h_is_found:Has K mg "is_found" gj ["thing", "m", "n"]:=⟨_,_,F27,F27.binds fun _ _ _ _ _ _ us hl=>match us,hl with | [_,_,_],_=>rfl,PySem.W.mg_of X G a27⟩
 have F28:=bC (st:=cu) l28 c28 k28
 have h_no_step_is_short:Has K mg "no_step_is_short" cu ["grid", "left", "right", "prices"]:=⟨_,_,F28,F28.binds fun _ _ _ _ _ _ us hl=>match us,hl with | [_,_,_,_],_=>rfl,PySem.W.mg_of X G a28⟩
 have F29:=bC (st:=cY) l29 c29 k29
 have h_shows_found:Has K mg "shows_found" cY ["ones", "others", "words", "prices", "told"]:=⟨_,_,F29,F29.binds fun _ _ _ _ _ _ us hl=>match us,hl with | [_,_,_,_,_],_=>rfl,PySem.W.mg_of X G a29⟩
 have F30:=bC (st:=qU) l30 c30 k30
 have h_next:Has K mg "_law_next" qU ["_law_pot", "_law_many"]:=⟨_,_,F30,F30.binds fun _ _ _ _ _ _ us hl=>match us,hl with | [_,_],_=>rfl,PySem.W.mg_of X G a30⟩
 have F31:=bC (st:=jP) l31 c31 k31
 have h_state:Has K mg "_law_state" jP ["_law_script"]:=⟨_,_,F31,F31.binds fun _ _ _ _ _ _ us hl=>match us,hl with | [_],_=>rfl,PySem.W.mg_of X G a31⟩
 have F32:=bC (st:=oZ) l32 c32 k32
 have h_list:Has K mg "_law_list" oZ ["_law_pot"]:=⟨_,_,F32,F32.binds fun _ _ _ _ _ _ us hl=>match us,hl with | [_],_=>rfl,PySem.W.mg_of X G a32⟩
 have F33:=bC (st:=qO) l33 c33 k33
 have h_text:Has K mg "_law_text" qO ["_law_pot", "_law_cores_here"]:=⟨_,_,F33,F33.binds fun _ _ _ _ _ _ us hl=>match us,hl with | [_,_],_=>rfl,PySem.W.mg_of X G a33⟩
 have F34:=bC (st:=jL) l34 c34 k34
 have h_texts:Has K mg "_law_texts" jL ["_law_pot", "_law_cores_here", "_law_many"]:=⟨_,_,F34,F34.binds fun _ _ _ _ _ _ us hl=>match us,hl with | [_,_,_],_=>rfl,PySem.W.mg_of X G a34⟩
 have F35:=bC (st:=lu) l35 c35 k35
 have h_known:Has K mg "_law_known" lu ["_law_pot", "_law_lefts", "_law_rights"]:=⟨_,_,F35,F35.binds fun _ _ _ _ _ _ us hl=>match us,hl with | [_,_,_],_=>rfl,PySem.W.mg_of X G a35⟩
 have F36:=bC (st:=gU) l36 c36 k36
 have h_prices:Has K mg "_law_prices" gU ["_law_pot"]:=⟨_,_,F36,F36.binds fun _ _ _ _ _ _ us hl=>match us,hl with | [_],_=>rfl,PySem.W.mg_of X G a36⟩
 have F37:=bC (st:=lB) l37 c37 k37
 have h_drawn:Has K mg "_law_drawn" lB ["_law_pot", "_law_most"]:=⟨_,_,F37,F37.binds fun _ _ _ _ _ _ us hl=>match us,hl with | [_,_],_=>rfl,PySem.W.mg_of X G a37⟩
 have F38:=bC (st:=kZ) l38 c38 k38
 have h_lcores:Has K mg "_law_cores" kZ ["_law_text_here"]:=⟨_,_,F38,F38.binds fun _ _ _ _ _ _ us hl=>match us,hl with | [_],_=>rfl,PySem.W.mg_of X G a38⟩
 have F39:=bC (st:=jM) l39 c39 k39
 have h_sides:Has K mg "_law_sides" jM ["_law_ones", "_law_others"]:=⟨_,_,F39,F39.binds fun _ _ _ _ _ _ us hl=>match us,hl with | [_,_],_=>rfl,PySem.W.mg_of X G a39⟩
 have F40:=bC (st:=jA) l40 c40 k40
 have h_link:Has K mg "_law_link" jA ["_law_sides_here", "_law_link_here", "_law_known_here", "_law_prices_here"]:=⟨_,_,F40,F40.binds fun _ _ _ _ _ _ us hl=>match us,hl with | [_,_,_,_],_=>rfl,PySem.W.mg_of X G a40⟩
 have F41:=bC (st:=pF) l41 c41 k41
 have h_step:Has K mg "_law_step" pF ["_law_sides_here", "_law_step_here", "_law_known_here", "_law_prices_here"]:=⟨_,_,F41,F41.binds fun _ _ _ _ _ _ us hl=>match us,hl with | [_,_,_,_],_=>rfl,PySem.W.mg_of X G a41⟩
 have F42:=bC (st:=lC) l42 c42 k42
 have h_steps:Has K mg "_law_steps" lC ["_law_i", "_law_j", "_law_m", "_law_n"]:=⟨_,_,F42,F42.binds fun _ _ _ _ _ _ us hl=>match us,hl with | [_,_,_,_],_=>rfl,PySem.W.mg_of X G a42⟩
 have F43:=bC (st:=sOn) l43 c43 k43
 have h_on:Has K mg "_law_on" sOn ["_law_step_here", "_law_i", "_law_j"]:=⟨_,_,F43,F43.binds fun _ _ _ _ _ _ us hl=>match us,hl with | [_,_,_],_=>rfl,PySem.W.mg_of X G a43⟩
 have F44:=bC (st:=lW) l44 c44 k44
 have h_left:Has K mg "_law_left" lW ["_law_sides_here", "_law_known_here", "_law_prices_here", "_law_m", "_law_n"]:=⟨_,_,F44,F44.binds fun _ _ _ _ _ _ us hl=>match us,hl with | [_,_,_,_,_],_=>rfl,PySem.W.mg_of X G a44⟩
 have F45:=bC (st:=jK) l45 c45 k45
 have h_right:Has K mg "_law_right" jK ["_law_pot", "_law_sides_here", "_law_known_here", "_law_prices_here", "_law_m", "_law_n"]:=⟨_,_,F45,F45.binds fun _ _ _ _ _ _ us hl=>match us,hl with | [_,_,_,_,_,_],_=>rfl,PySem.W.mg_of X G a45⟩
 have F46:=bC (st:=iJ) l46 c46 k46
 have h_spoilt:Has K mg "_law_spoilt" iJ ["_law_pot", "_law_thing", "_law_deep"]:=⟨_,_,F46,F46.binds fun _ _ _ _ _ _ us hl=>match us,hl with | [_,_,_],_=>rfl,PySem.W.mg_of X G a46⟩
 have F47:=bC (st:=Bo) l47 c47 k47
 have m_len:=PySem.W.mg_none_of X G z_len
 have m_int:=PySem.W.mg_none_of X G z_int
 have m_range:=PySem.W.mg_none_of X G z_range
 have m_isinstance:=PySem.W.mg_none_of X G z_isinstance
 have m_tuple:=PySem.W.mg_none_of X G z_tuple
 have m_bool:=PySem.W.mg_none_of X G z_bool
 have m_sum:=PySem.W.mg_none_of X G z_sum
 have m_abs:=PySem.W.mg_none_of X G z_abs
 have m_max:=PySem.W.mg_none_of X G z_max
 have m_set:=PySem.W.mg_none_of X G z_set
 have m_enumerate:=PySem.W.mg_none_of X G z_enumerate
 have m_any:=PySem.W.mg_none_of X G z_any
 have m_sorted:=PySem.W.mg_none_of X G z_sorted
 have m_min:=PySem.W.mg_none_of X G z_min
 have m_all:=PySem.W.mg_none_of X G z_all
 have m_list:=PySem.W.mg_none_of X G z_list
 have m_str:=PySem.W.mg_none_of X G z_str
 have q_MORE:=PySem.W.mg_of X G p_MORE
 have q_STRETCH:=PySem.W.mg_of X G p_STRETCH
 have q_ANCHOR:=PySem.W.mg_of X G p_ANCHOR
 have q_OUT:=PySem.W.mg_of X G p_OUT
 have q_CROSS:=PySem.W.mg_of X G p_CROSS
 have q_SHAPES:=PySem.W.mg_of X G p_SHAPES
 have kt_SHAPES:yu K t_SHAPES shapes:=yG (as:=[e0_SHAPES,e1_SHAPES,e2_SHAPES,e3_SHAPES,e4_SHAPES,e5_SHAPES,e6_SHAPES]) (gR y7_SHAPES (smn 7) (.cons rfl (.cons rfl (.cons rfl (.cons rfl (.cons rfl (.cons rfl (.cons rfl (.nil))))))))) (.cons (gR y0_SHAPES (smn 2) (.cons ⟨_,rfl⟩ (.cons ⟨_,rfl⟩ .nil))) (.cons (gR y1_SHAPES (smn 2) (.cons ⟨_,rfl⟩ (.cons ⟨_,rfl⟩ .nil))) (.cons (gR y2_SHAPES (smn 2) (.cons ⟨_,rfl⟩ (.cons ⟨_,rfl⟩ .nil))) (.cons (gR y3_SHAPES (smn 2) (.cons ⟨_,rfl⟩ (.cons ⟨_,rfl⟩ .nil))) (.cons (gR y4_SHAPES (smn 2) (.cons ⟨_,rfl⟩ (.cons ⟨_,rfl⟩ .nil))) (.cons (gR y5_SHAPES (smn 2) (.cons ⟨_,rfl⟩ (.cons ⟨_,rfl⟩ .nil))) (.cons (gR y6_SHAPES (smn 2) (.cons ⟨_,rfl⟩ (.cons ⟨_,rfl⟩ .nil))) .nil)))))))
 refine ⟨PySem.W.fnOf "law" "law" (aO Bo) (aN Bo) (au Bo) .none kV47 dc47 pm47 an47 cd47 ct47,fun s v=>.of_eq rfl,fun base _ _=>?_⟩
 have C_isw:=Ld (P:=l.prog) (w:=w) (base:=base) h_isw
 have C_words:=Fl (P:=l.prog) (w:=w) (base:=base) h_words C_isw m_tuple
 have C_cores:=Gf (P:=l.prog) (w:=w) (base:=base) h_cores C_words m_tuple
 have C_size_of:=wH (P:=l.prog) (w:=w) (base:=base) h_size_of m_len
 have C_cores_among:=nR (P:=l.prog) (w:=w) (base:=base) h_cores_among C_cores
 have C_places_known:=lV (P:=l.prog) (w:=w) (base:=base) h_places_known C_cores_among m_enumerate
 have C_hits_of_places:=jY (P:=l.prog) (w:=w) (base:=base) h_hits_of_places m_len m_set
 have C_measured:=vJ (P:=l.prog) (w:=w) (base:=base) h_measured C_places_known C_size_of
 have C_size_of_all:=ni (P:=l.prog) (w:=w) (base:=base) h_size_of_all m_sum
 have C_places_of_all:=kY (P:=l.prog) (w:=w) (base:=base) h_places_of_all
 have C_measured_cost:=lg (P:=l.prog) (w:=w) (base:=base) h_measured_cost C_size_of_all C_hits_of_places C_places_of_all m_max m_len m_abs q_MORE q_STRETCH q_ANCHOR
 have C_next:=Ht (P:=l.prog) (w:=w) (base:=base) h_next m_len
 have C_state:=Gy (P:=l.prog) (w:=w) (base:=base) h_state m_abs
 have C_list:=Jj (P:=l.prog) (w:=w) (base:=base) h_list C_next m_len m_range
 have C_text:=Ju (P:=l.prog) (w:=w) (base:=base) h_text C_next m_range
 have C_texts:=GJ (P:=l.prog) (w:=w) (base:=base) h_texts C_text m_tuple m_range
 have C_known:=Em (P:=l.prog) (w:=w) (base:=base) h_known C_next m_range m_tuple
 have C_prices:=Ca (P:=l.prog) (w:=w) (base:=base) h_prices C_next m_tuple m_range
 have C_lcores:=Bp (P:=l.prog) (w:=w) (base:=base) h_lcores
 have C_sides:=FN (P:=l.prog) (w:=w) (base:=base) h_sides C_lcores m_len
 have C_one_link:=vq (P:=l.prog) (w:=w) (base:=base) h_one_link m_tuple m_range
 have C_crossed:=wK (P:=l.prog) (w:=w) (base:=base) h_crossed
 have C_passed:=Cd (P:=l.prog) (w:=w) (base:=base) h_passed m_sum m_len
 have C_link_cost:=rQ (P:=l.prog) (w:=w) (base:=base) h_link_cost C_measured_cost m_len q_OUT
 have C_step_cost:=rJ (P:=l.prog) (w:=w) (base:=base) h_step_cost C_link_cost m_sum m_len q_CROSS
 have C_steps_from:=pq (P:=l.prog) (w:=w) (base:=base) h_steps_from C_one_link C_crossed m_tuple m_sorted q_SHAPES kt_SHAPES
 have C_priced_steps:=lU (P:=l.prog) (w:=w) (base:=base) h_priced_steps C_steps_from C_passed C_step_cost m_len
 have C_link:=Jl (P:=l.prog) (w:=w) (base:=base) h_link m_len m_any m_abs m_sum m_max
 have C_step:=HB (P:=l.prog) (w:=w) (base:=base) h_step C_link m_sum m_len
 have C_steps:=GX (P:=l.prog) (w:=w) (base:=base) h_steps m_range m_min m_tuple
 have C_on:=NT (P:=l.prog) (w:=w) (base:=base) h_on m_sum m_len
 have C_is_number:=rM (P:=l.prog) (w:=w) (base:=base) h_is_number m_isinstance m_bool m_int
 have C_is_row_of:=qZ (P:=l.prog) (w:=w) (base:=base) h_is_row_of m_len m_isinstance m_tuple
 have C_are_numbers:=oh (P:=l.prog) (w:=w) (base:=base) h_are_numbers C_is_number m_all m_isinstance m_tuple
 have C_is_grid:=zm (P:=l.prog) (w:=w) (base:=base) h_is_grid C_are_numbers C_is_row_of m_all
 have C_is_link_of_places:=iC (P:=l.prog) (w:=w) (base:=base) h_is_link_of_places C_are_numbers C_is_row_of
 have C_is_row_of_links:=jJ (P:=l.prog) (w:=w) (base:=base) h_is_row_of_links C_is_link_of_places m_all m_isinstance m_tuple
 have C_is_way:=Cg (P:=l.prog) (w:=w) (base:=base) h_is_way C_is_row_of_links C_steps_from C_passed m_all m_isinstance m_tuple
 have C_way_cost:=vm (P:=l.prog) (w:=w) (base:=base) h_way_cost C_step_cost m_sum
 have C_is_found:=vH (P:=l.prog) (w:=w) (base:=base) h_is_found C_is_row_of C_is_grid C_is_way C_is_number
 have C_no_step_is_short:=jg (P:=l.prog) (w:=w) (base:=base) h_no_step_is_short C_priced_steps m_enumerate
 have C_shows_found:=nj (P:=l.prog) (w:=w) (base:=base) h_shows_found C_is_found C_measured C_way_cost C_no_step_is_short m_len
 have C_left:=JK (P:=l.prog) (w:=w) (base:=base) h_left C_steps C_on C_step m_range m_min
 have C_drawn:=Fj (P:=l.prog) (w:=w) (base:=base) h_drawn C_list C_next C_texts C_prices C_known
 have C_spoilt:=sZ (P:=l.prog) (w:=w) (base:=base) h_spoilt C_next m_isinstance m_tuple m_len m_list m_str 7
 have C_right:=Fi (P:=l.prog) (w:=w) (base:=base) h_right C_left C_next C_on m_len m_tuple
 exact Ji F47 C_state C_drawn C_right C_sides C_shows_found C_spoilt m_len m_range m_list
theorem walk {l:PySem.W.OpenLaw} {q:Program} {loose:List Str} {XP:(Str→Option Value)→Heap→Prop} {YP:World→Heap→Prop} {d:DefRec} {K:Params→PySem.W.Frag} (hn:l.most=some 63) (hdf:d.params.defaults=[])
  (hY:∀ (w:World) (h:Heap),YP w h→(K w.params).In h)
  (F:∀ (w:World) (mg:Str→Option Value) (fa:Addr) (h:Heap),(K w.params).In h→h.Ns mainGlobals mg→mg d.name=some (.ref fa) →
   ∃ fd:FuncData,(∀ (s:Shared) (u:Value),BindsTo s fd ⟨[u],[]⟩ [("_law_script",u)])∧∀ base:Heap,(K w.params).In base→base.Ns mainGlobals mg→n8 l.prog w (K w.params) mg base CX0 9 fa fd ["_law_script"] (Ar (K w.params))) :
  PySem.W.WalkO q loose XP YP l.row.toRowW d [] (fun f vs=>PySem.call f vs) :=
 L2.Gs (n:=63) (k:=9) (x:="_law_script") (CX:=fun _=>CX0) (sp:=fun w=>Ar (K w.params)) hn (by decide) hdf ⟨rfl,by decide,by decide⟩ hY F (fun _ _ a ns hl _ hS=>⟨a,ns,rfl,hS,hl,fun _=>rfl⟩) fun _ _ _ _ _ z=>z
end Mine
def PySem.W.Fast.tw18070478295476646054:Unit:=()
def PySem.W.Fast.tw7245231778575991100:Unit:=()
def PySem.W.Fast.tw10933599890325395755:Unit:=()
def PySem.W.Fast.tw6861172119938980386:Unit:=()
def PySem.W.Fast.tw17112185277281260604:Unit:=()
def PySem.W.Fast.tw1595892139810726206:Unit:=()
def PySem.W.Fast.tw3667583930565286235:Unit:=()
def PySem.W.Fast.tw636618726985682659:Unit:=()
def PySem.W.Fast.tw16268580657228040146:Unit:=()
def PySem.W.Fast.tw15984919560360289563:Unit:=()
def PySem.W.Fast.tw17287024075663104377:Unit:=()
def PySem.W.Fast.tw8646419405887816935:Unit:=()
def PySem.W.Fast.tw8907061794856660720:Unit:=()
def PySem.W.Fast.tw11088866898897246565:Unit:=()
def PySem.W.Fast.tw13768988266456614530:Unit:=()
def PySem.W.Fast.tw17556485509164743053:Unit:=()
def PySem.W.Fast.tw13567430854171241293:Unit:=()
def PySem.W.Fast.tw14636829790524141216:Unit:=()
def PySem.W.Fast.tw10996675546213945430:Unit:=()
def PySem.W.Fast.tw4895448485027331111:Unit:=()
def PySem.W.Fast.tw5404115793990538832:Unit:=()
def PySem.W.Fast.tw872085598106918058:Unit:=()
def PySem.W.Fast.tw5483495507635936440:Unit:=()
def PySem.W.Fast.tw15817136172821498459:Unit:=()
def PySem.W.Fast.tw7112696336051973263:Unit:=()
def PySem.W.Fast.tw6765636360068553973:Unit:=()
def PySem.W.Fast.tw13386999842214049588:Unit:=()
def PySem.W.Fast.tw12298562805763234027:Unit:=()
def PySem.W.Fast.tw14769445917618799643:Unit:=()
def PySem.W.Fast.tw2144621779978763063:Unit:=()
def PySem.W.Fast.tw4482855476231257318:Unit:=()
def PySem.W.Fast.tw11691895520652232680:Unit:=()
def PySem.W.Fast.tw2880079644804111932:Unit:=()
def PySem.W.Fast.tw7856623726281329857:Unit:=()
def PySem.W.Fast.tw16021235737786799403:Unit:=()
def PySem.W.Fast.tw16264810593862961609:Unit:=()
def PySem.W.Fast.tw18341123706876501777:Unit:=()
def PySem.W.Fast.tw29226444969805469:Unit:=()
def PySem.W.Fast.tw8408072748941330966:Unit:=()
def PySem.W.Fast.tw15527413724318904478:Unit:=()
def PySem.W.Fast.tw6805628847512042766:Unit:=()
open PySem PySem.W PyProof.Rows
set_option maxRecDepth 100000 in
set_option maxHeartbeats 0 in
theorem PySem.Challenge.cw_twainkeep_k57_shown_of_anything_holds : PySem.Challenge.rw_twainkeep_k57_shown_of_anything.Holds := by
 w_on; o_law; k_head; (case hw=>w_witness2)
 k_fill
 refine Mine.walk (l:=PySem.Challenge.rw_twainkeep_k57_shown_of_anything) rfl rfl (fun w h Y=>PySem.W.kIn_of Y) ?F
 case F =>
  intro w mg fa h KX G hmg
  refine' Mine.all_mk KX G hmg ?a1 ?l1 ?c1 ?k1 ?a2 ?l2 ?c2 ?k2 ?a3 ?l3 ?c3 ?k3 ?a4 ?l4 ?c4 ?k4 ?a5 ?l5 ?c5 ?k5 ?a6 ?l6 ?c6 ?k6 ?a7 ?l7 ?c7 ?k7 ?a8 ?l8 ?c8 ?k8 ?a9 ?l9 ?c9 ?k9 ?a10 ?l10 ?c10 ?k10 ?a11 ?l11 ?c11 ?k11 ?a12 ?l12 ?c12 ?k12 ?a13 ?l13 ?c13 ?k13 ?a14 ?l14 ?c14 ?k14 ?a15 ?l15 ?c15 ?k15 ?a16 ?l16 ?c16 ?k16 ?a17 ?l17 ?c17 ?k17 ?a18 ?l18 ?c18 ?k18 ?a19 ?l19 ?c19 ?k19 ?a20 ?l20 ?c20 ?k20 ?a21 ?l21 ?c21 ?k21 ?a22 ?l22 ?c22 ?k22 ?a23 ?l23 ?c23 ?k23 ?a24 ?l24 ?c24 ?k24 ?a25 ?l25 ?c25 ?k25 ?a26 ?l26 ?c26 ?k26 ?a27 ?l27 ?c27 ?k27 ?a28 ?l28 ?c28 ?k28 ?a29 ?l29 ?c29 ?k29 ?a30 ?l30 ?c30 ?k30 ?a31 ?l31 ?c31 ?k31 ?a32 ?l32 ?c32 ?k32 ?a33 ?l33 ?c33 ?k33 ?a34 ?l34 ?c34 ?k34 ?a35 ?l35 ?c35 ?k35 ?a36 ?l36 ?c36 ?k36 ?a37 ?l37 ?c37 ?k37 ?a38 ?l38 ?c38 ?k38 ?a39 ?l39 ?c39 ?k39 ?a40 ?l40 ?c40 ?k40 ?a41 ?l41 ?c41 ?k41 ?a42 ?l42 ?c42 ?k42 ?a43 ?l43 ?c43 ?k43 ?a44 ?l44 ?c44 ?k44 ?a45 ?l45 ?c45 ?k45 ?a46 ?l46 ?c46 ?k46 ?a47 ?l47 ?c47 ?k47 ?p_MORE ?p_STRETCH ?p_ANCHOR ?p_OUT ?p_CROSS ?p_SHAPES ?y7_SHAPES ?y0_SHAPES ?y1_SHAPES ?y2_SHAPES ?y3_SHAPES ?y4_SHAPES ?y5_SHAPES ?y6_SHAPES ?z_len ?z_int ?z_range ?z_isinstance ?z_tuple ?z_bool ?z_sum ?z_abs ?z_max ?z_set ?z_enumerate ?z_any ?z_sorted ?z_min ?z_all ?z_list ?z_str
  (case a1=>k_is)
  (case l1=>k_is)
  (case c1=>k_is)
  (case k1=>k_is)
  (case a2=>k_is)
  (case l2=>k_is)
  (case c2=>k_is)
  (case k2=>k_is)
  (case a3=>k_is)
  (case l3=>k_is)
  (case c3=>k_is)
  (case k3=>k_is)
  (case a4=>k_is)
  (case l4=>k_is)
  (case c4=>k_is)
  (case k4=>k_is)
  (case a5=>k_is)
  (case l5=>k_is)
  (case c5=>k_is)
  (case k5=>k_is)
  (case a6=>k_is)
  (case l6=>k_is)
  (case c6=>k_is)
  (case k6=>k_is)
  (case a7=>k_is)
  (case l7=>k_is)
  (case c7=>k_is)
  (case k7=>k_is)
  (case a8=>k_is)
  (case l8=>k_is)
  (case c8=>k_is)
  (case k8=>k_is)
  (case a9=>k_is)
  (case l9=>k_is)
  (case c9=>k_is)
  (case k9=>k_is)
  (case a10=>k_is)
  (case l10=>k_is)
  (case c10=>k_is)
  (case k10=>k_is)
  (case a11=>k_is)
  (case l11=>k_is)
  (case c11=>k_is)
  (case k11=>k_is)
  (case a12=>k_is)
  (case l12=>k_is)
  (case c12=>k_is)
  (case k12=>k_is)
  (case a13=>k_is)
  (case l13=>k_is)
  (case c13=>k_is)
  (case k13=>k_is)
  (case a14=>k_is)
  (case l14=>k_is)
  (case c14=>k_is)
  (case k14=>k_is)
  (case a15=>k_is)
  (case l15=>k_is)
  (case c15=>k_is)
  (case k15=>k_is)
  (case a16=>k_is)
  (case l16=>k_is)
  (case c16=>k_is)
  (case k16=>k_is)
  (case a17=>k_is)
  (case l17=>k_is)
  (case c17=>k_is)
  (case k17=>k_is)
  (case a18=>k_is)
  (case l18=>k_is)
  (case c18=>k_is)
  (case k18=>k_is)
  (case a19=>k_is)
  (case l19=>k_is)
  (case c19=>k_is)
  (case k19=>k_is)
  (case a20=>k_is)
  (case l20=>k_is)
  (case c20=>k_is)
  (case k20=>k_is)
  (case a21=>k_is)
  (case l21=>k_is)
  (case c21=>k_is)
  (case k21=>k_is)
  (case a22=>k_is)
  (case l22=>k_is)
  (case c22=>k_is)
  (case k22=>k_is)
  (case a23=>k_is)
  (case l23=>k_is)
  (case c23=>k_is)
  (case k23=>k_is)
  (case a24=>k_is)
  (case l24=>k_is)
  (case c24=>k_is)
  (case k24=>k_is)
  (case a25=>k_is)
  (case l25=>k_is)
  (case c25=>k_is)
  (case k25=>k_is)
  (case a26=>k_is)
  (case l26=>k_is)
  (case c26=>k_is)
  (case k26=>k_is)
  (case a27=>k_is)
  (case l27=>k_is)
  (case c27=>k_is)
  (case k27=>k_is)
  (case a28=>k_is)
  (case l28=>k_is)
  (case c28=>k_is)
  (case k28=>k_is)
  (case a29=>k_is)
  (case l29=>k_is)
  (case c29=>k_is)
  (case k29=>k_is)
  (case a30=>k_is)
  (case l30=>k_is)
  (case c30=>k_is)
  (case k30=>k_is)
  (case a31=>k_is)
  (case l31=>k_is)
  (case c31=>k_is)
  (case k31=>k_is)
  (case a32=>k_is)
  (case l32=>k_is)
  (case c32=>k_is)
  (case k32=>k_is)
  (case a33=>k_is)
  (case l33=>k_is)
  (case c33=>k_is)
  (case k33=>k_is)
  (case a34=>k_is)
  (case l34=>k_is)
  (case c34=>k_is)
  (case k34=>k_is)
  (case a35=>k_is)
  (case l35=>k_is)
  (case c35=>k_is)
  (case k35=>k_is)
  (case a36=>k_is)
  (case l36=>k_is)
  (case c36=>k_is)
  (case k36=>k_is)
  (case a37=>k_is)
  (case l37=>k_is)
  (case c37=>k_is)
  (case k37=>k_is)
  (case a38=>k_is)
  (case l38=>k_is)
  (case c38=>k_is)
  (case k38=>k_is)
  (case a39=>k_is)
  (case l39=>k_is)
  (case c39=>k_is)
  (case k39=>k_is)
  (case a40=>k_is)
  (case l40=>k_is)
  (case c40=>k_is)
  (case k40=>k_is)
  (case a41=>k_is)
  (case l41=>k_is)
  (case c41=>k_is)
  (case k41=>k_is)
  (case a42=>k_is)
  (case l42=>k_is)
  (case c42=>k_is)
  (case k42=>k_is)
  (case a43=>k_is)
  (case l43=>k_is)
  (case c43=>k_is)
  (case k43=>k_is)
  (case a44=>k_is)
  (case l44=>k_is)
  (case c44=>k_is)
  (case k44=>k_is)
  (case a45=>k_is)
  (case l45=>k_is)
  (case c45=>k_is)
  (case k45=>k_is)
  (case a46=>k_is)
  (case l46=>k_is)
  (case c46=>k_is)
  (case k46=>k_is)
  (case a47=>k_is)
  (case l47=>k_is)
  (case c47=>k_is)
  (case k47=>k_is)
  (case p_MORE=>k_is)
  (case p_STRETCH=>k_is)
  (case p_ANCHOR=>k_is)
  (case p_OUT=>k_is)
  (case p_CROSS=>k_is)
  (case p_SHAPES=>k_is)
  (case y7_SHAPES=>k_is)
  (case y0_SHAPES=>k_is)
  (case y1_SHAPES=>k_is)
  (case y2_SHAPES=>k_is)
  (case y3_SHAPES=>k_is)
  (case y4_SHAPES=>k_is)
  (case y5_SHAPES=>k_is)
  (case y6_SHAPES=>k_is)
  (case z_len=>k_is)
  (case z_int=>k_is)
  (case z_range=>k_is)
  (case z_isinstance=>k_is)
  (case z_tuple=>k_is)
  (case z_bool=>k_is)
  (case z_sum=>k_is)
  (case z_abs=>k_is)
  (case z_max=>k_is)
  (case z_set=>k_is)
  (case z_enumerate=>k_is)
  (case z_any=>k_is)
  (case z_sorted=>k_is)
  (case z_min=>k_is)
  (case z_all=>k_is)
  (case z_list=>k_is)
  (case z_str=>k_is)
