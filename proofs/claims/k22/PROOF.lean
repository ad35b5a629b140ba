import PyProof.Rows.All
import Wide.All
import OpenK.AllK
import Wide.FinOn
import Lean
import PyProof.EqAt
import PyProof.EqKinds
import PyProof.TupleCall
import PyProof.ZipIter
import PyProof.TupleIter
import PyProof.WalksMore
import KE.KWords
import PyProof.MinMaxWalk
import PyProof.SeqI3
import PyProof.MaxThree
import PyProof.AttrMissHeap
import PyProof.DictList
import PyProof.DictIter
import KE.KDictOf
import KE.KDictList
import PyProof.Rows.CallKwBuiltin
import PyProof.Rows.Range3
import PyProof.Rows.StrNews2
import PyProof.StrLawsIdx
import PyProof.StrBlockI
import KE.KRevSl
import PyProof.AutoListH
import PyProof.DictWalks
import PyProof.Draws
import PyProof.EnumMake
import PyProof.NeKinds
import PyProof.Rows.SetFrom
import KE.KSortTup
import PyProof.StrBlock2
import PyProof.DictItems
import KE.KPairComp
import PyProof.Rows.SumAny
import PyProof.ListStr
import PyProof.DictValues
import KE.KItemsList
import PySem.SetOps
import PyProof.TupleKey
import PyProof.SetKind
import PyProof.IsRules
import PyProof.DictKinds
import PyProof.SetRoads
import PyProof.MeetsSeq2
import OpenK.KRaise
import PyProof.StationsW
import PyProof.ExcClass2
import OpenK.KOwn
import PyProof.Rows.FStr
import PyProof.NsDelKeeps
import PyProof.RulesAs
import KE.KIsNot
import PyProof.ExcArgsOwn
import PyProof.ExcAttrAll.ValueError
import KE.KLam
import PyProof.ListRange
import PyProof.TupleOfSeq
import PyProof.DictUpdate
import PySem.Challenge.RW_twainkeep_k22_texts_changed
set_option Elab.async false
set_option linter.all false
set_option maxRecDepth 100000
namespace L2
open PySem PySem.Spec PyProof.Rows
abbrev Key:=Sum Int Str
def wO:Key→Value→Bool
 | .inl k,v=>Value.isInt k v
 | .inr x,v=>Value.isStrOf x v
def Ro (w:World):Key→Int
 | .inl k=>hashInt k
 | .inr x=>hashStr w x
theorem bU:∀ {k:Key} {v:Value},wO k v=true→(∃ i t,k=Sum.inl i∧v=Value.int i t)∨(∃ x t,k=Sum.inr x∧v=Value.str x t)
 | .inl i,v,h=>by
  obtain ⟨t,e⟩:=Value.isInt_shape (k:=i) (v:=v) h
  exact .inl ⟨i,t,rfl,e⟩
 | .inr x,v,h=>by
  obtain ⟨t,e⟩:=Value.isStrOf_shape (x:=x) (v:=v) h
  exact .inr ⟨x,t,rfl,e⟩
theorem Ae (i:Int) (t:Tok):wO (.inl i) (.int i t)=true:=by simp [wO,Value.isInt]
theorem yO (x:Str) (t:Tok):wO (.inr x) (.str x t)=true:=by simp [wO,Value.isStrOf]
theorem Ke (a b:Int):decide ((Sum.inl a:Key)=Sum.inl b)=(a == b):=by
 by_cases e:a=b
 ·subst e; simp
 ·have h:¬ (Sum.inl a:Key)=Sum.inl b:=fun q=>e (Sum.inl.inj q)
  rw [decide_eq_false h]
  exact (beq_eq_false_iff_ne.mpr e).symm
theorem Nf (a b:Str):decide ((Sum.inr a:Key)=Sum.inr b)=decide (a=b):=by
 by_cases e:a=b
 ·subst e; simp
 ·have h:¬ (Sum.inr a:Key)=Sum.inr b:=fun q=>e (Sum.inr.inj q)
  rw [decide_eq_false h,decide_eq_false e]
theorem La (a:Int) (b:Str):decide ((Sum.inl a:Key)=Sum.inr b)=false:=decide_eq_false (fun q=>nomatch q)
theorem K9 (a:Str) (b:Int):decide ((Sum.inr a:Key)=Sum.inl b)=false:=decide_eq_false (fun q=>nomatch q)
def cg (prog:Program) (w:World):PySem.KeyKind prog w Key where
 is:=wO
 hash:=Ro w
 inj:=fun v a b ha hb=>by
  rcases bU ha with ⟨i,t,rfl,rfl⟩ | ⟨x,t,rfl,rfl⟩
  ·rcases bU hb with ⟨j,u,rfl,e⟩ | ⟨y,u,rfl,e⟩
   ·injection e with e1 _; rw [e1]
   ·exact nomatch e
  ·rcases bU hb with ⟨j,u,rfl,e⟩ | ⟨y,u,rfl,e⟩
   ·exact nomatch e
   ·injection e with e1 _; rw [e1]
 byValue:=fun k v h=>by
  rcases bU h with ⟨i,t,rfl,rfl⟩ | ⟨x,t,rfl,rfl⟩ <;> rfl
 pyHash:=fun hv h=>by
  rcases bU hv with ⟨i,t,rfl,rfl⟩ | ⟨x,t,rfl,rfl⟩
  ·exact wpAny_pyHash_int h
  ·exact wpAny_pyHash_str h
 eqBool:=fun hu hv h=>by
  rcases bU hu with ⟨i,t,rfl,rfl⟩ | ⟨x,t,rfl,rfl⟩
  ·rcases bU hv with ⟨j,u,rfl,rfl⟩ | ⟨y,u,rfl,rfl⟩
   ·rw [Ke] at h; exact wpAny_eqBool_int h
   ·rw [La] at h; exact SeqAt.EqAt.int_str i t y u _ _ _ _ h
  ·rcases bU hv with ⟨j,u,rfl,rfl⟩ | ⟨y,u,rfl,rfl⟩
   ·rw [K9] at h; exact SeqAt.EqAt.str_int x t j u _ _ _ _ h
   ·rw [Nf] at h; exact wpAny_eqBool_str h
 «strs»:=fun k x t v h=>by
  rcases bU h with ⟨i,u,rfl,e⟩ | ⟨y,u,rfl,e⟩
  ·exact nomatch e
  ·injection e with e1 _
   subst e1
   cases v <;> rfl
theorem um (prog:Program) (w:World) (i:Int) (t:Tok):(cg prog w).is (.inl i) (.int i t)=true:=Ae i t
theorem sV (prog:Program) (w:World) (x:Str) (t:Tok):(cg prog w).is (.inr x) (.str x t)=true:=yO x t
end L2
namespace L2
open PySem PySem.Spec PyProof.Rows
inductive V where
 | non | bl (b:Bool) | int (i:Int) | str (x:Str) | byt (b:Array UInt8) | flt (b:UInt64) | ref (a:Addr) | ty (n:String)
 deriving DecidableEq
def RelV:V→Value→Prop
 | .non,u=>u=Value.none
 | .bl b,u=>u=Value.bool b
 | .int i,u=>∃ t,u=Value.int i t
 | .str x,u=>∃ t,u=Value.str x t
 | .byt b,u=>∃ t,u=Value.bytes b t
 | .flt b,u=>∃ t,u=Value.float b t
 | .ref a,u=>u=Value.ref a
 | .ty n,u=>u=Value.type n
abbrev Vals:List V→List Value→Prop:=Paired RelV
theorem Vals.length {xs:List V} {us:List Value} (r:Vals xs us):xs.length=us.length:=Paired.length r
theorem Vals.get:∀ {xs:List V} {us:List Value} {i:Nat} {x:V},Vals xs us→xs[i]?=some x→∃ u,us[i]?=some u∧RelV x u
 | _,_,_,_,.nil,e=>by simp at e
 | _,_,0,_,.cons r _,e=>by simp at e; subst e; exact ⟨_,rfl,r⟩
 | _,_,i+1,x,.cons _ t,e=>by
  obtain ⟨u,h1,h2⟩:=Vals.get (i:=i) (x:=x) t (by simpa using e)
  exact ⟨u,by simpa using h1,h2⟩
theorem Vals.set {x:V} {u:Value} (r:RelV x u):∀ {xs:List V} {us:List Value} (i:Nat),Vals xs us→Vals (xs.set i x) (us.set i u)
 | _,_,_,.nil=>.nil
 | _,_,0,.cons _ t=>.cons r t
 | _,_,i+1,.cons q t=>.cons q (Vals.set r i t)
theorem Vals.append:∀ {xs ys:List V} {us ws:List Value},Vals xs us→Vals ys ws→Vals (xs++ys) (us++ws)
 | _,_,_,_,.nil,s=>s
 | _,_,_,_,.cons r t,s=>.cons r (Vals.append t s)
theorem Vals.take:∀ {xs:List V} {us:List Value} (n:Nat),Vals xs us→Vals (xs.take n) (us.take n)
 | _,_,0,_=>.nil
 | _,_,_+1,.nil=>.nil
 | _,_,n+1,.cons r t=>.cons r (Vals.take n t)
theorem Vals.drop:∀ {xs:List V} {us:List Value} (n:Nat),Vals xs us→Vals (xs.drop n) (us.drop n)
 | _,_,0,r=>r
 | _,_,_+1,.nil=>.nil
 | _,_,n+1,.cons _ t=>Vals.drop n t
def wZ:Option V→Option Value→Prop
 | some v,some u=>RelV v u
 | none,none=>True
 | _,_=>False
def KV {κ:Type}:List (κ × V)→List (κ × Value)→Prop:=Paired fun (p:κ × V) (q:κ × Value)=>p.1=q.1∧RelV p.2 q.2
def kV:Key→V
 | .inl i=>.int i
 | .inr x=>.str x
inductive HO where
 | lst (xs:List V)
 | tup (xs:List V)
 | dK (kvs:List (Key × V)) | dT (kvs:List (List Key × V))
 | set (S:Int→Bool) (n:Nat)
 | ins (C dx:Addr) (fs:List (Str × V))
 | own (x:Addr)
 | xd (fs:List (Str × V))
 | met (f x:Addr)
 | rng (lo hi:Int)
 | frz (o:Obj) (u:HO)
 | tbl (ps:Array Value)
 | ext (φ:Heap→Prop)
abbrev Hp:=Addr→Option HO
def upd (H:Hp) (a:Addr) (o:HO):Hp:=fun b=>if b=a then some o else H b
theorem ak {H:Hp} {a:Addr} {o:HO}:upd H a o a=some o:=by unfold upd; rw [if_pos rfl]
theorem aF {H:Hp} {a b:Addr} {o:HO} (h:b≠a):upd H a o b=H b:=by unfold upd; rw [if_neg h]
theorem gG {H:Hp} {a:Addr} {o u:HO}:upd (upd H a o) a u=upd H a u:=by
 funext b; unfold upd; split <;> rfl
theorem iC {H:Hp} {a b:Addr} {o u:HO} (h:H a=some o) (h':H b=some u) (d:o≠u):a≠b:=by
 intro e; subst e; rw [h] at h'; exact d (Option.some.inj h')
theorem aB {H:Hp} {a b:Addr} {o:HO} (h:H a=some o) (h':H b=none):a≠b:=by
 intro e; subst e; rw [h] at h'; cases h'
section
variable (P:Program) (w:World)
def cF (H:Hp) (h:Heap) (a:Addr):HO→Prop
 | .lst xs=>xs.length≤sizeLine∧∃ (its:List Value) (n:Nat),Vals xs its∧h.get? a=some { cls:=.type "list",data:=.seq its.toArray n }
 | .tup xs=>xs.length≤sizeLine∧∃ its:List Value,Vals xs its∧IsTup h a its.toArray
 | .dK kvs=>kvs.length≤sizeLine∧(a == sysModules)=false∧∃ vs,KV kvs vs∧h.DictOf (cg P w) a vs
 | .dT kvs=>kvs.length≤sizeLine∧(a == sysModules)=false∧∃ xs:List (List Key × Addr × Value),
   Paired (fun (p:List Key × V) (q:List Key × Addr × Value)=>p.1=q.1∧H q.2.1=some (.tup (p.1.map kV))∧RelV p.2 q.2.2) kvs xs ∧
   ∃ o es ep,h.get? a=some o∧o.ExactDict∧o.data=.dict es ep∧es.toList=xs.map (entryOfKey (tupleKind (cg P w)))∧(xs.map (·.1)).Nodup
 | .set S n=>h.SetOf (intKind P w) a S n
 | .ins C dx fs=>H dx=some (.own a)∧fs.length≤1000∧dx≠a∧h.get? a=some (PySem.W.instObj C dx) ∧
   ∃ mA,h.Ns1 dx mA∧(∀ f,wZ (fs.lookup f) (mA f))∧PySem.Within mA (fs.map (·.1))
 | .own _=>∃ o,h.get? a=some o
 | .xd fs=>∃ mA,h.Ns1 a mA∧∀ f,wZ (fs.lookup f) (mA f)
 | .rng lo hi=>∃ t u v,h.get? a=some { cls:=.type "range",data:=.fields #[.int lo t,.int hi u,.int 1 v] }
 | .frz o u=>h.get? a=some o∧cF H h a u
 | .tbl ps=>h.get? a=some { cls:=.none,data:=.fields ps }
 | .met f x=>h.get? a=some (PySem.W.methodObj (.ref f) (.ref x))
 | .ext φ=>φ h∧(∃ o,h.get? a=some o)∧∀ h1 h2:Heap,φ h1→(∀ o,h1.get? a=some o→h2.get? a=some o)→φ h2
def HOk (H:Hp) (h:Heap):Prop:=∀ a o,H a=some o→cF P w H h a o
end
section
variable {P:Program} {w:World} {H H':Hp} {h h':Heap} {a:Addr} {o:HO}
theorem cF.lt (x:cF P w H h a o):a < h.objs.size:=by
 cases o with
 | lst xs=>obtain ⟨_,_,_,_,e⟩:=x; exact Heap.lt_size e
 | tup xs=>obtain ⟨_,_,_,p⟩:=x; exact p.lt
 | dK kvs=>obtain ⟨_,_,_,_,o,_,_,e,_⟩:=x; exact Heap.lt_size e
 | dT kvs=>obtain ⟨_,_,_,_,o,_,_,e,_⟩:=x; exact Heap.lt_size e
 | set S n=>obtain ⟨o,_,_,_,e,_⟩:=x; exact Heap.lt_size e
 | ins C dx fs=>obtain ⟨_,_,_,e,_⟩:=x; exact Heap.lt_size e
 | own y=>obtain ⟨_,e⟩:=x; exact Heap.lt_size e
 | xd fs=>obtain ⟨_,⟨_,_,_,e,_⟩,_⟩:=x; exact Heap.lt_size e
 | rng lo hi=>obtain ⟨_,_,_,e⟩:=x; exact Heap.lt_size e
 | frz ob u=>obtain ⟨e,_⟩:=x; exact Heap.lt_size e
 | tbl ps=>exact Heap.lt_size (show h.get? a=some _ from x)
 | met f y=>exact Heap.lt_size (show h.get? a=some _ from x)
 | ext φ=>obtain ⟨_,⟨_,e⟩,_⟩:=x; exact Heap.lt_size e
theorem Paired.mapP {α β:Type} {F G:α→β→Prop}:∀ {l₁:List α} {l₂:List β},Paired F l₁ l₂→(∀ a b,F a b→G a b)→Paired G l₁ l₂
 | _,_,.nil,_=>.nil
 | _,_,.cons r t,f=>.cons (f _ _ r) (Paired.mapP t f)
theorem cF.stay (x:cF P w H h a o) (k:∀ b u,(b=a∨H b=some (.own a))→h.get? b=some u→h'.get? b=some u)
  (ho:∀ b,H b=some (.own a)→H' b=some (.own a)) (ht:∀ b xs,H b=some (.tup xs)→H' b=some (.tup xs)):cF P w H' h' a o:=by
 induction o with
 | lst xs=>obtain ⟨z,its,n,r,e⟩:=x; exact ⟨z,its,n,r,k _ _ (.inl rfl) e⟩
 | tup xs=>obtain ⟨z,its,r,ob,e,c⟩:=x; exact ⟨z,its,r,ob,k _ _ (.inl rfl) e,c⟩
 | dK kvs=>obtain ⟨z,y,vs,r,ob,es,ep,e,c⟩:=x; exact ⟨z,y,vs,r,ob,es,ep,k _ _ (.inl rfl) e,c⟩
 | dT kvs =>
  obtain ⟨z,y,xs,r,ob,es,ep,e,c⟩:=x
  exact ⟨z,y,xs,Paired.mapP r fun p q z=>⟨z.1,ht _ _ z.2.1,z.2.2⟩,ob,es,ep,k _ _ (.inl rfl) e,c⟩
 | set S n=>obtain ⟨ob,es,ep,t,e,c⟩:=x; exact ⟨ob,es,ep,t,k _ _ (.inl rfl) e,c⟩
 | ins C dx fs =>
  obtain ⟨d,z,ne,e,mA,⟨od,es,ep,e2,c⟩,r⟩:=x
  exact ⟨ho _ d,z,ne,k _ _ (.inl rfl) e,mA,⟨od,es,ep,k _ _ (.inr d) e2,c⟩,r⟩
 | own y=>obtain ⟨ob,e⟩:=x; exact ⟨ob,k _ _ (.inl rfl) e⟩
 | xd fs=>obtain ⟨mA,⟨od,es,ep,e,c⟩,r⟩:=x; exact ⟨mA,⟨od,es,ep,k _ _ (.inl rfl) e,c⟩,r⟩
 | rng lo hi=>obtain ⟨t,u,v,e⟩:=x; exact ⟨t,u,v,k _ _ (.inl rfl) e⟩
 | frz ob u ih=>obtain ⟨e,q⟩:=x; exact ⟨k _ _ (.inl rfl) e,ih q⟩
 | tbl ps =>
  have e:h.get? a=some { cls:=.none,data:=.fields ps }:=x
  show h'.get? a=some { cls:=.none,data:=.fields ps }
  exact k a _ (.inl rfl) e
 | met f y =>
  have e:h.get? a=some (PySem.W.methodObj (.ref f) (.ref y)):=x
  show h'.get? a=some (PySem.W.methodObj (.ref f) (.ref y))
  exact k a _ (.inl rfl) e
 | ext φ=>obtain ⟨p,⟨o,e⟩,st⟩:=x; exact ⟨st _ _ p fun o q=>k _ _ (.inl rfl) q,⟨o,k _ _ (.inl rfl) e⟩,st⟩
theorem HOk.lt (x:HOk P w H h) (e:H a=some o):a < h.objs.size:=(x a o e).lt
theorem HOk.fresh (x:HOk P w H h) (e:h.objs.size≤a):H a=none:=by
 cases q:H a with
 | none=>rfl
 | some u=>exact absurd (Nat.lt_of_lt_of_le (x.lt q) e) (Nat.lt_irrefl _)
theorem HOk.kept (x:HOk P w H h) (k:∀ b u,h.get? b=some u→h'.get? b=some u):HOk P w H h':=fun a o e =>
 (x a o e).stay (fun b u _ q=>k b u q) (fun _ q=>q) fun _ _ q=>q
theorem HOk.laid (x:HOk P w H h) (k:∀ b u,h.get? b=some u→h'.get? b=some u) (hp:h.objs.size≤a) (new:cF P w (upd H a o) h' a o):HOk P w (upd H a o) h':=fun b u e=>by
 have hn:=x.fresh hp
 by_cases hb:b=a
 ·subst hb; rw [ak] at e; cases e; exact new
 ·rw [aF hb] at e
  exact (x b u e).stay (fun c v _ q=>k c v q) (fun c q=>by rw [aF (aB q hn)]; exact q) fun c xs q=>by rw [aF (aB q hn)]; exact q
end
def Rd (H:Hp) (a:Addr) (u:HO):Prop:=H a=some u∨∃ o,H a=some (.frz o u)
theorem Rd.of {H:Hp} {a:Addr} {u:HO} (h:H a=some u):Rd H a u:=.inl h
theorem Rd.ok {P:Program} {w:World} {H:Hp} {h:Heap} {a:Addr} {u:HO} (r:Rd H a u) (x:HOk P w H h):cF P w H h a u:=by
 rcases r with r | ⟨o,r⟩
 ·exact x a u r
 ·obtain ⟨_,q⟩:=x a _ r
  exact q
def Mut:Option HO→Prop
 | some (.lst _)=>True
 | some (.dK _)=>True
 | some (.dT _)=>True
 | some (.set _ _)=>True
 | some (.ins _ _ _)=>True
 | some (.ext _)=>True
 | _=>False
section
variable {P:Program} {w:World} {H:Hp} {h h':Heap} {x e:Addr} {o':HO}
theorem HOk.write (ok:HOk P w H h) (mu:Mut (H x)) (he:e=x∨H e=some (.own x)) (k:∀ b u,b≠e→h.get? b=some u→h'.get? b=some u) (heo:∃ u,h'.get? e=some u)
  (new:cF P w (upd H x o') h' x o'):HOk P w (upd H x o') h':=fun b u q=>by
 have nown:∀ c y,H c=some (.own y)→c≠x:=fun c y r z=>by subst z; rw [r] at mu; exact mu
 have ntup:∀ c xs,H c=some (.tup xs)→c≠x:=fun c xs r z=>by subst z; rw [r] at mu; exact mu
 by_cases hb:b=x
 ·subst hb; rw [ak] at q; cases q; exact new
 ·rw [aF hb] at q
  by_cases hbe:b=e
  ·have q':H b=some (.own x):=by
    rcases he with z | z
    ·exact absurd (hbe.trans z) hb
    ·rw [hbe]; exact z
   rw [q] at q'; cases q'
   obtain ⟨v,hv⟩:=heo
   exact ⟨v,by rw [hbe]; exact hv⟩
  ·refine (ok b u q).stay (fun c v hc r=>k c v ?_ r) (fun c r=>by rw [aF (nown c b r)]; exact r) fun c xs r=>by rw [aF (ntup c xs r)]; exact r
   rcases hc with rfl | hc
   ·exact hbe
   ·rintro rfl
    rcases he with z | z
    ·exact nown c b hc z
    ·rw [hc] at z; cases z; exact hb rfl
end
structure Un (fs ex:List Addr) (H H':Hp) (h h':Heap):Prop where
 keep:∀ b o,h.get? b=some o→H b=none→b ∉ fs→b ∉ ex→h'.get? b=some o
 slot:∀ b o,h.get? b=some o→H b=none→b∈fs→b ∉ ex→∃ sl,h'.get? b=some { o with slots:=sl }
 free:∀ b o,h.get? b=some o→H b=none→b ∉ ex→H' b=none
 there:∀ b o,h.get? b=some o→b ∉ ex→∃ o',h'.get? b=some o'
 tups:∀ b xs,H b=some (.tup xs)→H' b=some (.tup xs)
 frzs:∀ b o u,H b=some (.frz o u)→H' b=some (.frz o u)
 tbls:∀ b ps,H b=some (.tbl ps)→∃ more,H' b=some (.tbl (ps++more))
section
variable {fs fs' ex ex':List Addr} {H H1 H2:Hp} {h h1 h2 h':Heap} {a x e:Addr} {o:HO}
theorem Un.any (u:Un fs ex H H1 h h1) {b:Addr} {ob:Obj} (q:h.get? b=some ob) (n:H b=none) (hx:b ∉ ex):∃ sl,h1.get? b=some { ob with slots:=sl }:=by
 by_cases hb:b∈fs
 ·exact u.slot b ob q n hb hx
 ·exact ⟨ob.slots,u.keep b ob q n hb hx⟩
theorem Un.trans (a:Un fs ex H H1 h h1) (b:Un fs ex H1 H2 h1 h2):Un fs ex H H2 h h2 where
 keep:=fun c ob q n hc hx=>b.keep c ob (a.keep c ob q n hc hx) (a.free c ob q n hx) hc hx
 slot:=fun c ob q n hc hx=>by
  obtain ⟨sl,e1⟩:=a.slot c ob q n hc hx
  obtain ⟨sl',e2⟩:=b.slot c _ e1 (a.free c ob q n hx) hc hx
  exact ⟨sl',e2⟩
 free:=fun c ob q n hx=>by
  obtain ⟨o',e1⟩:=a.there c ob q hx
  exact b.free c o' e1 (a.free c ob q n hx) hx
 there:=fun c ob q hx=>by
  obtain ⟨o',e1⟩:=a.there c ob q hx
  exact b.there c o' e1 hx
 tups:=fun c xs q=>b.tups c xs (a.tups c xs q)
 frzs:=fun c ob xs q=>b.frzs c ob xs (a.frzs c ob xs q)
 tbls:=fun c ps q=>by
  obtain ⟨m1,e1⟩:=a.tbls c ps q
  obtain ⟨m2,e2⟩:=b.tbls c _ e1
  exact ⟨m1++m2,by rw [e2,Array.append_assoc]⟩
theorem Un.kept (k:∀ b u,h.get? b=some u→h'.get? b=some u):Un fs ex H H h h' :=
 ⟨fun b ob q _ _ _=>k b ob q,fun b ob q _ _ _=>⟨ob.slots,k b ob q⟩,fun _ _ _ n _=>n,fun b ob q _=>⟨ob,k b ob q⟩,fun _ _ q=>q,fun _ _ _ q=>q,fun _ ps q=>⟨#[],by rw [q]; simp⟩⟩
theorem Un.refl:Un fs ex H H h h:=Un.kept fun _ _ q=>q
theorem Un.laid (k:∀ b u,h.get? b=some u→h'.get? b=some u) (hp:h.objs.size≤a) (hn:H a=none):Un fs ex H (upd H a o) h h' where
 keep:=fun b u q _ _ _=>k b u q
 slot:=fun b u q _ _ _=>⟨u.slots,k b u q⟩
 free:=fun b u q n _=>by rw [aF (Nat.ne_of_lt (Nat.lt_of_lt_of_le (Heap.lt_size q) hp))]; exact n
 there:=fun b u q _=>⟨u,k b u q⟩
 tups:=fun b xs q=>by rw [aF (aB q hn)]; exact q
 frzs:=fun b u xs q=>by rw [aF (aB q hn)]; exact q
 tbls:=fun b ps q=>⟨#[],by rw [aF (aB q hn),q]; simp⟩
theorem Un.write (mu:Mut (H x)) (he:e=x∨H e=some (.own x)) (k:∀ b u,b≠e→h.get? b=some u→h'.get? b=some u) (heo:∃ u,h'.get? e=some u):Un fs ex H (upd H x o) h h':=by
 have hx:∀ b,H b=none→b≠x:=fun b n z=>by subst z; rw [n] at mu; exact mu
 have hb:∀ b,H b=none→b≠e:=fun b n z=>by
  subst z
  rcases he with r | r
  ·exact hx b n r
  ·rw [n] at r; cases r
 have hm:∀ b u,H b=some u→¬ Mut (some u)→b≠x:=fun b u q nm z=>by subst z; rw [q] at mu; exact nm mu
 refine ⟨fun b u q n _ _=>k b u (hb b n) q,fun b u q n _ _=>⟨u.slots,k b u (hb b n) q⟩,fun b u q n _=>by rw [aF (hx b n)]; exact n,fun b u q _=>?_,
  fun b xs q=>by rw [aF (hm b _ q fun z=>z)]; exact q,fun b u xs q=>by rw [aF (hm b _ q fun z=>z)]; exact q,fun b ps q=>⟨#[],by rw [aF (hm b _ q fun z=>z),q]; simp⟩⟩
 by_cases hbe:b=e
 ·subst hbe; exact heo
 ·exact ⟨u,k b u hbe q⟩
theorem Un.mono (u:Un fs ex H H1 h h1) (hs:∀ b∈fs,b∈fs') (hx:∀ b∈ex,b∈ex'):Un fs' ex' H H1 h h1 :=
 ⟨fun b ob q n hb he=>u.keep b ob q n (fun z=>hb (hs b z)) fun z=>he (hx b z),fun _ _ q n _ he=>u.any q n fun z=>he (hx _ z),fun b ob q n he=>u.free b ob q n fun z=>he (hx b z),fun b ob q he=>u.there b ob q fun z=>he (hx b z),u.tups,u.frzs,u.tbls⟩
end
def trk (h:Heap) (H:Hp):List Addr:=(List.range h.objs.size).filter fun a=>(H a).isSome
def Gb (h:Heap) (H:Hp):Heap:=PySem.W.hideAll h (trk h H)
theorem yX (h:Heap) (H:Hp):(Gb h H).objs.size=h.objs.size:=PySem.W.hideAll_size _ _
theorem Fg {h:Heap} {H:Hp} {b:Addr} {o:Obj} (e:h.get? b=some o) (n:H b=none):(Gb h H).get? b=some o :=
 PySem.W.hideAll_get _ e fun hm=>by
  have q:(H b).isSome=true:=(List.mem_filter.mp hm).2
  rw [n] at q; simp at q
theorem JD {h:Heap} {H:Hp} {b:Addr} {o:Obj} (e:(Gb h H).get? b=some o):h.get? b=some o∧H b=none:=by
 have e':h.get? b=some o:=PySem.W.of_hideAll (trk h H) e
 refine ⟨e',?_⟩
 cases q:H b with
 | none=>rfl
 | some x =>
  have hm:b∈trk h H:=List.mem_filter.mpr ⟨List.mem_range.mpr (Heap.lt_size e'),by simp [q]⟩
  have z:(Gb h H).get? b=none:=PySem.W.hideAll_none (trk h H) hm
  rw [z] at e; cases e
def Ip (g h:Heap) (L:Addr):List (Addr × Obj):=(List.range h.objs.size).filterMap fun a=>if a=L∨(g.get? a).isSome=true then none else (h.get? a).map fun o=>(a,o)
def rest (g h:Heap) (L d:Addr):List (Addr × Obj):=(Ip g h L).filter fun p=>decide (p.1≠d)
end L2
namespace L2
open PySem PySem.Spec PyProof.Rows
structure Mod (K:PySem.W.Frag) (mg:Str→Option Value) (base:Heap):Prop where
 kin:K.In base
 glob:base.Ns mainGlobals mg
 blt:∃ mb,base.Ns builtinsNs mb∧∀ x:Str,x ≠ "__name__"→mb x=bootBuiltins x
 nolimit:base.NoLimit
structure Cx where
 prog:Program
 w:World
 K:PySem.W.Frag
 mg:Str→Option Value
 base:Heap
 A:Around
 N:List Str
 s₀:Shared
 H₀:Hp
 env:Env
 outer:List Env
 stack:List Env
 ex:List Addr
 fn:Str→Bool
 calm:Bool
 pn:List (Addr × Obj)
 xe:Value→Shared→Prop
def frs (l:List Env):List Addr:=l.filterMap (·.frame)
abbrev Cx.fs (X:Cx):List Addr:=frs X.outer
def Vis (sc:Scope) (x:Str):Prop:=sc.names.lookup x=some .local∨sc.names.lookup x=some .cell∨sc.names.lookup x=some .free
def Loc (sc:Scope) (x:Str):Prop:=sc.names.lookup x=some .local∨sc.names.lookup x=some .cell
def Look (env:Env) (h:Heap) (m:Str→Option Value) (x:Str) (u:Value):Prop :=
 (env.kindOf x=some .local∧m x=some u)∨((env.kindOf x=some .cell∨env.kindOf x=some .free)∧∃ c,env.cells.lookup x=some c∧h.IsCell c (some u))
structure Cx.Ok (X:Cx):Prop where
 mod:Mod X.K X.mg X.base
 kind:X.env.scope.kind=.function
 glob:X.env.globals=mainGlobals
 blt:X.env.builtins=builtinsNs
 above:X.s₀.heap.objs.size≤X.env.locals
 inj:∀ x y c,X.env.cells.lookup x=some c→X.env.cells.lookup y=some c→x=y
 has:∀ x,(X.env.kindOf x=some .cell∨X.env.kindOf x=some .free)→∃ c,X.env.cells.lookup x=some c
 cab:∀ x c,X.fn x=true→X.env.cells.lookup x=some c→X.s₀.heap.objs.size≤c
 hd:X.calm=true→X.A.handled=none
 frames:X.A.frames=some X.stack
 stk:X.stack=X.outer∨(X.stack=X.env :: X.outer∧X.env.frame=some X.env.locals)
 exf:∀ b∈X.ex,b≠X.env.locals∧∀ x c,X.env.cells.lookup x=some c→c≠b
 bs:∀ b o,X.base.get? b=some o→X.s₀.heap.get? b=some o∧X.H₀ b=none
 bsz:X.base.objs.size≤X.s₀.heap.objs.size
 noex:∀ b o,X.base.get? b=some o→b ∉ X.ex
 exfs:∀ b∈X.ex,b ∉ X.fs
 funs:X.s₀.heap.FunFrames X.base X.outer
 frf:∀ b∈X.fs,X.H₀ b=none
structure Inv (X:Cx) (pins:List (Addr × Obj)) (σ:List (Option V)) (H:Hp) (s:Shared):Prop where
 ok:X.Ok
 os:s.os=X.s₀.os
 bare:AllBare s.gens
 base:Un X.fs X.ex X.H₀ H X.s₀.heap s.heap
 loc:∃ m,s.heap.Ns X.env.locals m∧∀ (i:Nat) (x:Str) (v:V),X.N[i]?=some x→σ[i]?=some (some v)→Vis X.env.scope x→∃ u,RelV v u∧Look X.env s.heap m x u
 cell:∀ x c,X.env.cells.lookup x=some c→∃ v,s.heap.IsCell c v
 free:H X.env.locals=none
 freeC:∀ x c,X.env.cells.lookup x=some c→H c=none
 pin:∀ p∈X.pn++pins,s.heap.get? p.1=some p.2∧H p.1=none∧p.1≠X.env.locals∧p.1 ∉ X.fs∧∀ v,p.2.data≠.cell v
 hok:HOk X.prog X.w H s.heap
 len:σ.length=X.N.length
section
variable {X:Cx} {pins:List (Addr × Obj)} {σ:List (Option V)} {H H':Hp} {s:Shared} {h':Heap}
theorem Cx.Ok.nofr (ok:X.Ok) {b:Addr} {o:Obj} (e:X.base.get? b=some o):b ∉ X.fs:=fun hb=>by
 have:=(ok.funs.mem hb).1
 rw [e] at this; cases this
theorem Inv.bs (I:Inv X pins σ H s):∀ b o,X.base.get? b=some o→s.heap.get? b=some o∧H b=none:=fun b o e =>
 ⟨I.base.keep b o (I.ok.bs b o e).1 (I.ok.bs b o e).2 (I.ok.nofr e) (I.ok.noex b o e),I.base.free b o (I.ok.bs b o e).1 (I.ok.bs b o e).2 (I.ok.noex b o e)⟩
theorem Inv.bk (I:Inv X pins σ H s):∀ b o,X.base.get? b=some o→s.heap.get? b=some o:=fun b o e=>(I.bs b o e).1
theorem Inv.mod (I:Inv X pins σ H s):Mod X.K X.mg X.base:=I.ok.mod
theorem Inv.kIn (I:Inv X pins σ H s):X.K.In s.heap:=I.ok.mod.kin.keeps I.bk
theorem Inv.nolimit (I:Inv X pins σ H s):s.heap.NoLimit:=I.ok.mod.nolimit.keeps I.bk
theorem Inv.fr (I:Inv X pins σ H s):∃ m,Fr X.base X.env.locals s.heap m :=
 let ⟨m,hn,_⟩:=I.loc
 ⟨m,hn,I.bk,Nat.le_trans I.ok.bsz I.ok.above⟩
theorem Inv.lt (I:Inv X pins σ H s):X.env.locals < s.heap.objs.size:=let ⟨_,hn,_⟩:=I.loc; hn.lt
theorem Inv.sz (I:Inv X pins σ H s):X.s₀.heap.objs.size≤s.heap.objs.size:=Nat.le_trans I.ok.above (Nat.le_of_lt I.lt)
theorem Inv.nofs (I:Inv X pins σ H s) {a:Addr} (h:s.heap.objs.size≤a):a ∉ X.fs:=fun hb=>by
 obtain ⟨_,o,ho,_⟩:=I.ok.funs.mem hb
 exact absurd (Nat.lt_of_lt_of_le (Heap.lt_size ho) (Nat.le_trans I.sz h)) (Nat.lt_irrefl _)
theorem Inv.cne (I:Inv X pins σ H s):∀ x c,X.env.cells.lookup x=some c→c≠X.env.locals:=fun x c e z=>by
 obtain ⟨v,o,ho,hd⟩:=I.cell x c e
 obtain ⟨m,⟨o',es,ep,ho',hd',_⟩,_⟩:=I.loc
 rw [z,ho'] at ho; cases ho; rw [hd'] at hd; cases hd
theorem Inv.funs (I:Inv X pins σ H s):s.heap.FunFrames X.base X.outer:=by
 have all:∀ (l:List Env),(∀ b∈frs l,b∈X.fs)→X.s₀.heap.FunFrames X.base l→s.heap.FunFrames X.base l:=by
  intro l
  induction l with
  | nil=>intro _ _; trivial
  | cons env r ih =>
   intro hs hl
   obtain ⟨hk,⟨L,o,hf,hn,ho,hd⟩,hr⟩:=hl
   have hL:L∈X.fs:=hs L (by unfold frs; rw [List.filterMap_cons,hf]; exact List.mem_cons_self)
   obtain ⟨sl,e⟩:=I.base.slot L o ho (I.ok.frf L hL) hL fun z=>I.ok.exfs L z hL
   exact ⟨hk,⟨L,_,hf,hn,e,hd⟩,ih (fun b hb=>hs b (by unfold frs; rw [List.filterMap_cons,hf]; exact List.mem_cons_of_mem _ hb)) hr⟩
 exact all X.outer (fun _ hb=>hb) I.ok.funs
theorem Inv.stack (I:Inv X pins σ H s):s.heap.FunFrames X.base X.stack:=by
 rcases I.ok.stk with e | ⟨e,hf⟩
 ·rw [e]; exact I.funs
 ·rw [e]
  obtain ⟨m,hn,_⟩:=I.loc
  refine .cons (by rw [I.ok.kind]; decide) hf hn ?_ I.funs
  exact Heap.get?_none_of_le (Nat.le_trans I.ok.bsz I.ok.above)
theorem Inv.stkSub (I:Inv X pins σ H s):∀ b∈frs X.stack,b∈X.env.locals :: X.fs:=fun b hb=>by
 rcases I.ok.stk with e | ⟨e,hf⟩
 ·rw [e] at hb; exact List.mem_cons_of_mem _ hb
 ·rw [e] at hb
  unfold frs at hb
  rw [List.filterMap_cons,hf] at hb
  exact hb
theorem Inv.stkFree (I:Inv X pins σ H s):∀ b∈frs X.stack,H b=none:=fun b hb=>by
 rcases List.mem_cons.mp (I.stkSub b hb) with e | hb
 ·rw [e]; exact I.free
 ·obtain ⟨_,o,ho,_⟩:=I.ok.funs.mem hb
  exact I.base.free b o ho (I.ok.frf b hb) fun z=>I.ok.exfs b z hb
theorem Inv.step {g':Array GenState} {t':Nat} {d':Drawn} {ch:List Addr} (I:Inv X pins σ H s)
  (hch:∀ b∈ch,(b∈X.ex∨X.s₀.heap.objs.size≤b)∧b≠X.env.locals∧(∀ x c,X.env.cells.lookup x=some c→c≠b)∧∀ p∈X.pn++pins,p.1≠b)
  (keep:∀ b o,b≠X.env.locals→b ∉ X.fs→b ∉ ch→s.heap.get? b=some o→H b=none→h'.get? b=some o)
  (slot:∀ b o,b≠X.env.locals→b∈X.fs→b ∉ ch→s.heap.get? b=some o→H b=none→∃ sl,h'.get? b=some { o with slots:=sl }) (free:∀ b o,b ∉ ch→s.heap.get? b=some o→H b=none→H' b=none)
  (there:∀ b o,b ∉ ch→s.heap.get? b=some o→∃ o',h'.get? b=some o')
  (tups:∀ b xs,H b=some (.tup xs)→H' b=some (.tup xs)) (frzs:∀ b o u,H b=some (.frz o u)→H' b=some (.frz o u)) (tbls:∀ b ps,H b=some (.tbl ps)→∃ more,H' b=some (.tbl (ps++more)))
  (ns:∀ m,s.heap.Ns X.env.locals m→h'.Ns X.env.locals m) (hok:HOk X.prog X.w H' h') (hg:AllBare g') :
  Inv X pins σ H' { s with heap:=h',gens:=g',drawn:=d',toks:=t' }:=by
 have neL:∀ b o,X.s₀.heap.get? b=some o→b≠X.env.locals:=fun b o e=>Nat.ne_of_lt (Nat.lt_of_lt_of_le (Heap.lt_size e) I.ok.above)
 have neC:∀ b o,X.s₀.heap.get? b=some o→b ∉ X.ex→b ∉ ch:=fun b o e hx hb=>by
  rcases (hch b hb).1 with z | z
  ·exact hx z
  ·exact absurd (Nat.lt_of_lt_of_le (Heap.lt_size e) z) (Nat.lt_irrefl _)
 have cellK:∀ x c,X.env.cells.lookup x=some c→∀ v,s.heap.IsCell c v→h'.IsCell c v:=fun x c e v ⟨o,ho,hd⟩=>by
  have nch:c ∉ ch:=fun z=>(hch c z).2.2.1 x c e rfl
  by_cases hc:c∈X.fs
  ·obtain ⟨sl,q⟩:=slot c o (I.cne x c e) hc nch ho (I.freeC x c e)
   exact ⟨_,q,hd⟩
  ·exact ⟨o,keep c o (I.cne x c e) hc nch ho (I.freeC x c e),hd⟩
 refine ⟨I.ok,I.os,hg,⟨fun b o e n hb hx=>?_,fun b o e n hb hx=>?_,fun b o e n hx=>?_,fun b o e hx=>?_,fun b xs e=>tups b xs (I.base.tups b xs e),fun b o xs e=>frzs b o xs (I.base.frzs b o xs e),fun b ps e=>?_⟩,?_,fun x c e=>?_,?_,fun x c e=>?_,fun p hp=>?_,hok,I.len⟩
 ·exact keep b o (neL b o e) hb (neC b o e hx) (I.base.keep b o e n hb hx) (I.base.free b o e n hx)
 ·obtain ⟨sl,e1⟩:=I.base.slot b o e n hb hx
  obtain ⟨sl',e2⟩:=slot b _ (neL b o e) hb (neC b o e hx) e1 (I.base.free b o e n hx)
  exact ⟨sl',e2⟩
 ·obtain ⟨o',e1⟩:=I.base.there b o e hx
  exact free b o' (neC b o e hx) e1 (I.base.free b o e n hx)
 ·obtain ⟨o',e1⟩:=I.base.there b o e hx
  exact there b o' (neC b o e hx) e1
 ·obtain ⟨m1,e1⟩:=I.base.tbls b ps e
  obtain ⟨m2,e2⟩:=tbls b _ e1
  exact ⟨m1++m2,by rw [e2,Array.append_assoc]⟩
 ·obtain ⟨m,hn,hl⟩:=I.loc
  refine ⟨m,ns m hn,fun i x v e1 e2 e3=>?_⟩
  obtain ⟨u,r,l⟩:=hl i x v e1 e2 e3
  refine ⟨u,r,?_⟩
  rcases l with l | ⟨k,c,e,z⟩
  ·exact .inl l
  ·exact .inr ⟨k,c,e,cellK x c e _ z⟩
 ·obtain ⟨v,z⟩:=I.cell x c e
  exact ⟨v,cellK x c e v z⟩
 ·obtain ⟨m,⟨o,_,_,ho,_⟩,_⟩:=I.loc
  exact free _ o (fun z=>(hch _ z).2.1 rfl) ho I.free
 ·obtain ⟨v,o,ho,hd⟩:=I.cell x c e
  exact free c o (fun z=>(hch c z).2.2.1 x c e rfl) ho (I.freeC x c e)
 ·obtain ⟨e,n,ne,nf,d⟩:=I.pin p hp
  have nch:p.1 ∉ ch:=fun z=>(hch p.1 z).2.2.2 p hp rfl
  exact ⟨keep p.1 p.2 ne nf nch e n,free p.1 p.2 nch e n,ne,nf,d⟩
theorem Inv.un {t':Nat} (I:Inv X pins σ H s) (u:Un X.fs [] H H' s.heap h') (hok:HOk X.prog X.w H' h'):Inv X pins σ H' { s with heap:=h',toks:=t' }:=by
 obtain ⟨m,⟨o,es,ep,ho,r⟩,_⟩:=id I.loc
 obtain ⟨sl,hL⟩:=u.any ho I.free (by simp)
 exact I.step (g':=s.gens) (d':=s.drawn) (ch:=[]) (fun _ z=>nomatch z) (fun b o _ hb _ e n=>u.keep b o e n hb (by simp)) (fun b o _ hb _ e n=>u.slot b o e n hb (by simp)) (fun b o _ e n=>u.free b o e n (by simp)) (fun b o _ e=>u.there b o e (by simp)) u.tups u.frzs u.tbls (fun m' hm=>by
  obtain ⟨o',es',ep',ho',r'⟩:=hm
  rw [ho] at ho'; cases ho'
  exact ⟨_,es',ep',hL,r'⟩) hok I.bare
theorem Inv.call {g':Array GenState} {t':Nat} {d':Drawn} {ch:List Addr} (I:Inv X pins σ H s) (u:Un (frs X.stack) ch H H' s.heap h') (hok:HOk X.prog X.w H' h') (hg:AllBare g')
  (hch:∀ b∈ch,(b∈X.ex∨X.s₀.heap.objs.size≤b)∧b≠X.env.locals∧(∀ x c,X.env.cells.lookup x=some c→c≠b)∧∀ p∈X.pn++pins,p.1≠b) :
  Inv X pins σ H' { s with heap:=h',gens:=g',drawn:=d',toks:=t' }:=by
 obtain ⟨m,⟨o,es,ep,ho,r⟩,_⟩:=id I.loc
 obtain ⟨sl,hL⟩:=u.any ho I.free fun z=>(hch _ z).2.1 rfl
 exact I.step (ch:=ch) hch (fun b o hL hb hc e n=>u.keep b o e n (fun z=>(List.mem_cons.mp (I.stkSub b z)).elim hL hb) hc) (fun b o _ _ hc e n=>u.any e n hc) (fun b o hc e n=>u.free b o e n hc) (fun b o hc e=>u.there b o e hc) u.tups u.frzs u.tbls (fun m' hm=>by
  obtain ⟨o',es',ep',ho',r'⟩:=hm
  rw [ho] at ho'; cases ho'
  exact ⟨_,es',ep',hL,r'⟩) hok hg
theorem Inv.turned {t':Nat} {it:Addr} (I:Inv X pins σ H s) (k:∀ b o,b≠it→s.heap.get? b=some o→h'.get? b=some o) (hn:H it=none) (hL:it≠X.env.locals)
  (h1:it∈X.ex∨X.s₀.heap.objs.size≤it) (h2:∀ x c,X.env.cells.lookup x=some c→c≠it) (h3:∀ p∈X.pn++pins,p.1≠it):Inv X pins σ H { s with heap:=h',toks:=t' }:=by
 have nit:∀ b u,H b=some u→b≠it:=fun b u e z=>by rw [z,hn] at e; cases e
 refine I.step (g':=s.gens) (d':=s.drawn) (ch:=[it]) (fun b hb=>?_) (fun b o _ _ hc e _=>k b o (fun z=>hc (by simp [z])) e) (fun b o _ _ hc e _=>⟨o.slots,k b o (fun z=>hc (by simp [z])) e⟩) (fun _ _ _ _ n=>n)
  (fun b o hc e=>⟨o,k b o (fun z=>hc (by simp [z])) e⟩) (fun _ _ e=>e) (fun _ _ _ e=>e) (fun b ps e=>⟨#[],by rw [e]; simp⟩) (fun m hm=>?_) (fun b u e=>?_) I.bare
 ·have e:b=it:=by simpa using hb
  subst e
  exact ⟨h1,hL,h2,h3⟩
 ·obtain ⟨o,es,ep,ho,r⟩:=hm
  exact ⟨o,es,ep,k _ o (Ne.symm hL) ho,r⟩
 ·refine (I.hok b u e).stay (fun c v hc q=>k c v ?_ q) (fun _ q=>q) fun _ _ q=>q
  rcases hc with z | z
  ·rw [z]; exact nit b u e
  ·exact nit c _ z
theorem Inv.tok (I:Inv X pins σ H s) (t:Nat):Inv X pins σ H { s with toks:=t }:=I.un (h':=s.heap) (t':=t) Un.refl I.hok
theorem Inv.kept {t':Nat} (I:Inv X pins σ H s) (k:∀ b u,s.heap.get? b=some u→h'.get? b=some u):Inv X pins σ H { s with heap:=h',toks:=t' }:=I.un (Un.kept k) (I.hok.kept k)
theorem Inv.laid {a:Addr} {o:HO} {t':Nat} (I:Inv X pins σ H s) (k:∀ b u,s.heap.get? b=some u→h'.get? b=some u) (hp:s.heap.objs.size≤a) (new:cF X.prog X.w (upd H a o) h' a o) :
  Inv X pins σ (upd H a o) { s with heap:=h',toks:=t' }:=I.un (Un.laid k hp (I.hok.fresh hp)) (I.hok.laid k hp new)
theorem Inv.write {x e:Addr} {o:HO} {t':Nat} (I:Inv X pins σ H s) (mu:Mut (H x)) (he:e=x∨H e=some (.own x)) (k:∀ b u,b≠e→s.heap.get? b=some u→h'.get? b=some u) (heo:∃ u,h'.get? e=some u)
  (new:cF X.prog X.w (upd H x o) h' x o):Inv X pins σ (upd H x o) { s with heap:=h',toks:=t' }:=I.un (Un.write mu he k heo) (I.hok.write mu he k heo new)
theorem Inv.pins_of {pins':List (Addr × Obj)} (I:Inv X pins σ H s) (h:∀ p∈pins',s.heap.get? p.1=some p.2∧H p.1=none∧p.1≠X.env.locals∧p.1 ∉ X.fs∧∀ v,p.2.data≠.cell v):Inv X pins' σ H s :=
 ⟨I.ok,I.os,I.bare,I.base,I.loc,I.cell,I.free,I.freeC,fun p hp=>(List.mem_append.mp hp).elim (fun z=>I.pin p (List.mem_append_left _ z)) (h p),I.hok,I.len⟩
theorem pC {N:List Str} (hN:N.Nodup) {i j:Nat} {x:Str} (a:N[i]?=some x) (b:N[j]?=some x):i=j:=by
 obtain ⟨h1,e1⟩:=List.getElem?_eq_some_iff.mp a
 obtain ⟨h2,e2⟩:=List.getElem?_eq_some_iff.mp b
 exact (List.getElem_inj hN).mp (e1.trans e2.symm)
theorem qO {M:Model} {A:Around} {E:Value→Shared→Prop} {i:Nat} {x:Str} {v:V} {u:Value} {Q:Unit→Shared→Prop} (I:Inv X pins σ H s) (hN:X.N.Nodup) (hi:X.N[i]?=some x) (hx:Loc X.env.scope x) (r:RelV v u)
  (h:∀ s',Inv X pins (σ.set i (some v)) H s'→(∃ a,Heap.SameBut a s.heap s'.heap∧(a=X.env.locals∨X.env.cells.lookup x=some a))→Q () s') (hf:X.fn x=true∨X.env.scope.names.lookup x=some .local:=by first | exact .inl rfl | exact .inr rfl | assumption):wpAny M A (storeName X.env x u) Q E s:=by
 obtain ⟨m,hn,hl⟩:=id I.loc
 have hcls:(X.env.scope.kind == .class || (X.env.scope.kind == .module && X.env.locals != X.env.globals))=false:=by rw [I.ok.kind]; rfl
 have hiσ:i < σ.length:=by rw [I.len]; exact (List.getElem?_eq_some_iff.mp hi).1
 have cne:=I.cne
 have tracked:∀ {a:Addr} {h':Heap},(∃ o,s.heap.get? a=some o∧H a=none)→Heap.SameBut a s.heap h'→HOk X.prog X.w H h':=fun {a h'} ha hs b ob e=>by
  obtain ⟨_,_,hfree⟩:=ha
  refine (I.hok b ob e).stay (fun c w' hc q=>(hs.2 c ?_).trans q) (fun _ q=>q) fun _ _ q=>q
  rintro rfl
  rcases hc with rfl | hc
  ·rw [hfree] at e; cases e
  ·rw [hfree] at hc; cases hc
 rcases hx with hk | hk
 ·refine wpAny_storeName_local hk hn (fun h' hn' hs=>?_) hcls
  obtain ⟨oL,_,_,hoL,_⟩:=id hn
  refine h _ ⟨I.ok,I.os,I.bare,⟨fun b o e n hb hx=>?_,fun b o e n hb hx=>?_,I.base.free,fun b o e hx=>?_,I.base.tups,I.base.frzs,I.base.tbls⟩,⟨_,hn',fun j y v' e1 e2 e3=>?_⟩,fun y c e=>?_,I.free,I.freeC,fun p hp=>?_,tracked ⟨oL,hoL,I.free⟩ hs,by simpa using I.len⟩ ⟨_,hs,.inl rfl⟩
  ·exact (hs.2 b (Nat.ne_of_lt (Nat.lt_of_lt_of_le (Heap.lt_size e) I.ok.above))).trans (I.base.keep b o e n hb hx)
  ·obtain ⟨sl,e1⟩:=I.base.slot b o e n hb hx
   exact ⟨sl,(hs.2 b (Nat.ne_of_lt (Nat.lt_of_lt_of_le (Heap.lt_size e) I.ok.above))).trans e1⟩
  ·obtain ⟨o',e1⟩:=I.base.there b o e hx
   exact ⟨o',(hs.2 b (Nat.ne_of_lt (Nat.lt_of_lt_of_le (Heap.lt_size e) I.ok.above))).trans e1⟩
  ·by_cases hj:j=i
   ·subst hj
    rw [hi] at e1; cases e1
    rw [List.getElem?_set_self hiσ] at e2
    cases e2
    exact ⟨u,r,.inl ⟨hk,by simp⟩⟩
   ·rw [List.getElem?_set_ne (Ne.symm hj)] at e2
    obtain ⟨u',r',q⟩:=hl j y v' e1 e2 e3
    refine ⟨u',r',?_⟩
    rcases q with ⟨k,e⟩ | ⟨k,c,e,z⟩
    ·refine .inl ⟨k,?_⟩
     have:y≠x:=fun e=>hj (pC hN e1 (e ▸ hi))
     simp [this,e]
    ·exact .inr ⟨k,c,e,z.sameBut hs (cne y c e)⟩
  ·obtain ⟨w',z⟩:=I.cell y c e
   exact ⟨w',z.sameBut hs (cne y c e)⟩
  ·obtain ⟨e,n,ne,nf,d⟩:=I.pin p hp
   exact ⟨(hs.2 p.1 ne).trans e,n,ne,nf,d⟩
 ·have hfn:X.fn x=true:=by
   rcases hf with z | z
   ·exact z
   ·rw [z] at hk; cases hk
  obtain ⟨c,hc⟩:=I.ok.has x (.inl hk)
  obtain ⟨w',z⟩:=I.cell x c hc
  refine wpAny_storeName_cell I.ok.kind hk hc z (fun h' hc' hs=>?_)
  obtain ⟨oc,hoc,hocd⟩:=id z
  refine h { s with heap:=h' } ⟨I.ok,I.os,I.bare,⟨fun b o e n hb hx=>?_,fun b o e n hb hx=>?_,I.base.free,fun b o e hx=>?_,I.base.tups,I.base.frzs,I.base.tbls⟩,⟨m,hn.sameBut hs (Ne.symm (cne x c hc)),fun j y v' e1 e2 e3=>?_⟩,fun y c' e=>?_,I.free,I.freeC,fun p hp=>?_,tracked ⟨oc,hoc,I.freeC x c hc⟩ hs,by simpa using I.len⟩ ⟨c,hs,.inr hc⟩
  ·exact (hs.2 b (Nat.ne_of_lt (Nat.lt_of_lt_of_le (Heap.lt_size e) (I.ok.cab x c hfn hc)))).trans (I.base.keep b o e n hb hx)
  ·obtain ⟨sl,e1⟩:=I.base.slot b o e n hb hx
   exact ⟨sl,(hs.2 b (Nat.ne_of_lt (Nat.lt_of_lt_of_le (Heap.lt_size e) (I.ok.cab x c hfn hc)))).trans e1⟩
  ·obtain ⟨o',e1⟩:=I.base.there b o e hx
   exact ⟨o',(hs.2 b (Nat.ne_of_lt (Nat.lt_of_lt_of_le (Heap.lt_size e) (I.ok.cab x c hfn hc)))).trans e1⟩
  ·by_cases hj:j=i
   ·subst hj
    rw [hi] at e1; cases e1
    rw [List.getElem?_set_self hiσ] at e2
    cases e2
    exact ⟨u,r,.inr ⟨.inl hk,c,hc,hc'⟩⟩
   ·rw [List.getElem?_set_ne (Ne.symm hj)] at e2
    obtain ⟨u',r',q⟩:=hl j y v' e1 e2 e3
    refine ⟨u',r',?_⟩
    rcases q with q | ⟨k,c',e,z'⟩
    ·exact .inl q
    ·refine .inr ⟨k,c',e,z'.sameBut hs ?_⟩
     rintro rfl
     exact hj (pC hN e1 (I.ok.inj _ _ _ e hc ▸ hi))
  ·by_cases hcc:c'=c
   ·subst hcc; exact ⟨_,hc'⟩
   ·obtain ⟨w2,z2⟩:=I.cell y c' e
    exact ⟨w2,z2.sameBut hs hcc⟩
  ·obtain ⟨e,n,ne,nf,d⟩:=I.pin p hp
   refine ⟨(hs.2 p.1 ?_).trans e,n,ne,nf,d⟩
   intro q
   rw [q,hoc] at e
   have q':oc=p.2:=Option.some.inj e
   exact d w' (by rw [← q']; exact hocd)
theorem pW {M:Model} {A:Around} {E:Value→Shared→Prop} {i:Nat} {x:Str} {v:V} {u:Value} {Q:Unit→Shared→Prop} (I:Inv X pins σ H s) (hN:X.N.Nodup) (hi:X.N[i]?=some x) (hx:Loc X.env.scope x) (r:RelV v u)
  (h:∀ s',Inv X pins (σ.set i (some v)) H s'→Q () s') (hf:X.fn x=true∨X.env.scope.names.lookup x=some .local:=by first | exact .inl rfl | exact .inr rfl | assumption):wpAny M A (storeName X.env x u) Q E s :=
 qO I hN hi hx r (fun s' I' _=>h s' I') hf
theorem Inv.call' {s':Shared} {ch:List Addr} (I:Inv X pins σ H s) (ho:s'.os=s.os) (u:Un (frs X.stack) ch H H' s.heap s'.heap) (hok:HOk X.prog X.w H' s'.heap) (hg:AllBare s'.gens)
  (hch:∀ b∈ch,(b∈X.ex∨X.s₀.heap.objs.size≤b)∧b≠X.env.locals∧(∀ x c,X.env.cells.lookup x=some c→c≠b)∧∀ p∈X.pn++pins,p.1≠b):Inv X pins σ H' s':=by
 obtain ⟨h',g',d',t',o'⟩:=s'
 have e:o'=s.os:=ho
 subst e
 exact I.call (g':=g') (t':=t') (d':=d') u hok hg hch
end
abbrev XK:=Value→Option Addr→Hp→Prop
abbrev St:=List (Option V)
abbrev VK:=V→Hp→Prop
abbrev TE:=St→Hp→VK→Prop
abbrev TT:=St→Hp→(Bool→Hp→Prop)→Prop
abbrev TA:=St→Hp→(List V→Hp→Prop)→Prop
structure Ends where
 nx:St→Hp→Prop
 rt:VK
 bk:St→Hp→Prop:=fun _ _=>False
 ct:St→Hp→Prop:=fun _ _=>False
abbrev TS:=Ends→St→Hp→Prop
def EP (X:Cx) (pins:List (Addr × Obj)) (σ:St) (Q:VK) (u:Value) (s':Shared):Prop:=∃ v H',Inv X pins σ H' s'∧RelV v u∧Q v H'
def TP (X:Cx) (pins:List (Addr × Obj)) (σ:St) (Q:Bool→Hp→Prop) (b:Bool) (s':Shared):Prop:=∃ H',Inv X pins σ H' s'∧Q b H'
def AP (X:Cx) (pins:List (Addr × Obj)) (σ:St) (Q:List V→Hp→Prop) (us:List Value) (s':Shared):Prop:=∃ vs H',Inv X pins σ H' s'∧Vals vs us∧Q vs H'
def SP (X:Cx) (pins:List (Addr × Obj)) (D:Ends) (f:Flow) (s':Shared):Prop :=
 match f with
 | .next=>∃ σ' H',Inv X pins σ' H' s'∧D.nx σ' H'
 | .brk=>∃ σ' H',Inv X pins σ' H' s'∧D.bk σ' H'
 | .cont=>∃ σ' H',Inv X pins σ' H' s'∧D.ct σ' H'
 | .ret u=>∃ v σ' H',Inv X pins σ' H' s'∧RelV v u∧D.rt v H'
def PE (X:Cx) (e:Expr) (t:TE):Prop :=
 ∀ (pins:List (Addr × Obj)) (s:Shared) (σ:St) (H:Hp) (Q:VK),Inv X pins σ H s→t σ H Q→wpAny (model X.prog X.w) X.A (eval e X.env) (EP X pins σ Q) X.xe s
def PT (X:Cx) (e:Expr) (t:TT):Prop :=
 ∀ (pins:List (Addr × Obj)) (s:Shared) (σ:St) (H:Hp) (Q:Bool→Hp→Prop),Inv X pins σ H s→t σ H Q→wpAny (model X.prog X.w) X.A (isTrue e X.env (eval e X.env)) (TP X pins σ Q) X.xe s
def PW (X:Cx) (e:Expr) (t:TT):Prop :=
 ∀ (whole:Sem Value) (pins:List (Addr × Obj)) (s:Shared) (σ:St) (H:Hp) (Q:Bool→Hp→Prop),Inv X pins σ H s→t σ H Q→wpAny (model X.prog X.w) X.A (isTrue e X.env whole) (TP X pins σ Q) X.xe s
theorem PW.pt {X:Cx} {e:Expr} {t:TT} (h:PW X e t):PT X e t:=h _
def PA (X:Cx) (es:List Expr) (t:TA):Prop :=
 ∀ (pos:Pos) (pins:List (Addr × Obj)) (s:Shared) (σ:St) (H:Hp) (Q:List V→Hp→Prop),Inv X pins σ H s→t σ H Q→wpAny (model X.prog X.w) X.A (spliced (backTo pos (starEach es X.env))) (AP X pins σ Q) X.xe s
def PS (X:Cx) (st:Stmt) (t:TS):Prop :=
 ∀ (pins:List (Addr × Obj)) (s:Shared) (σ:St) (H:Hp) (D:Ends),Inv X pins σ H s→t D σ H→wpAny (model X.prog X.w) X.A (exec st X.env) (SP X pins D) X.xe s
def PSs (X:Cx) (st:List Stmt) (t:TS):Prop :=
 ∀ (pins:List (Addr × Obj)) (s:Shared) (σ:St) (H:Hp) (D:Ends),Inv X pins σ H s→t D σ H→wpAny (model X.prog X.w) X.A (execs st X.env) (SP X pins D) X.xe s
theorem thn {α:Type} {t:Sem α} {Q Q':α→Shared→Prop} {M:Model} {A:Around} {E:Value→Shared→Prop} {s:Shared} (h:wpAny M A t Q E s) (hQ:∀ a s,Q a s→Q' a s):wpAny M A t Q' E s:=wpAny_mono h hQ fun _ _ x=>x
end L2
namespace L2
open PySem PySem.Spec PyProof.Rows
section
variable {X:Cx}
theorem bin {a b:Expr} {ta tb:TE} (ha:PE X a ta) (hb:PE X b tb) {pins:List (Addr × Obj)} {s:Shared} {σ:St} {H:Hp} {R:V→V→Hp→Prop} (I:Inv X pins σ H s) (h:ta σ H fun x H1=>tb σ H1 fun y H2=>R x y H2)
  {α:Type} {Q:α→Shared→Prop} {f:Value→Value→Sem α}
  (hf:∀ v u s2 x y H2,Inv X pins σ H2 s2→RelV x v→RelV y u→R x y H2→wpAny (model X.prog X.w) X.A (f v u) Q X.xe s2) :
  wpAny (model X.prog X.w) X.A (eval a X.env) (fun v s₁=>wpAny (model X.prog X.w) X.A (eval b X.env) (fun u s₂=>wpAny (model X.prog X.w) X.A (f v u) Q X.xe s₂) X.xe s₁) X.xe s:=by
 refine thn (ha pins s σ H _ I h) fun v s1 ⟨x,H1,I1,r1,q1⟩=>?_
 refine thn (hb pins s1 σ H1 _ I1 q1) fun u s2 ⟨y,H2,I2,r2,q2⟩=>?_
 exact hf v u s2 x y H2 I2 r1 r2 q2
def qU (i:Nat):TE:=fun σ H Q=>∃ v,σ[i]?=some (some v)∧Q v H
def tC (v:V):TE:=fun _ H Q=>Q v H
theorem KY {i:Nat} {x:Str} {pos:Pos} (hN:X.N[i]?=some x) (hv:Vis X.env.scope x) (hd:(x == ("__debug__" : Str))=false:=by decide) (hcd:(x == ("__classdict__" : Str))=false:=by decide):PE X (.Name x pos) (qU i):=by
 intro pins s σ H Q I h
 obtain ⟨v,e,h⟩:=h
 obtain ⟨m,hn,hl⟩:=I.loc
 obtain ⟨u,r,l⟩:=hl i x v hN e hv
 have fin:EP X pins σ Q u s:=⟨v,H,I,r,h⟩
 rcases l with ⟨hk,hm⟩ | ⟨hk,c,hc,hcell⟩
 ·exact wpAny_Name (wpAny_loadName_local I.ok.kind hk hn hm fin) hd
 ·rcases hk with hk | hk
  ·exact wpAny_Name (wpAny_loadName_cell I.ok.kind hk hc hcell fin) hd
  ·exact wpAny_Name (wpAny_loadName_free I.ok.kind hk hc hcell fin hcd) hd
theorem aA {i j pos}:PE X (.Constant (.int i) j pos) (tC (.int i)):=fun _ _ _ H _ I h=>wpAny_Constant_int ⟨.int i,H,I.tok _,⟨_,rfl⟩,h⟩
theorem wF {b j pos}:PE X (.Constant (.bool b) j pos) (tC (.bl b)):=fun _ _ _ H _ I h=>Constant_bool ⟨.bl b,H,I,rfl,h⟩
theorem jK {j pos}:PE X (.Constant .none j pos) (tC .non):=fun _ _ _ H _ I h=>Constant_none ⟨.non,H,I,rfl,h⟩
theorem aG {x j pos}:PE X (.Constant (.str x) j pos) (tC (.str x)):=fun _ _ _ H _ I h=>Calls.Constant_str ⟨.str x,H,I.tok _,⟨_,rfl⟩,h⟩
def Gl (X:Cx) (x:Str):Prop:=X.env.kindOf x=some .globalImplicit
theorem lX {E:Value→Shared→Prop} {pins:List (Addr × Obj)} {s:Shared} {σ:St} {H:Hp} {x:Str} {u:Value} {pos:Pos} {Q:Value→Shared→Prop} (I:Inv X pins σ H s) (hg:Gl X x) (hm:X.mg x=some u) (h:Q u s)
  (hd:(x == ("__debug__" : Str))=false:=by decide):wpAny (model X.prog X.w) X.A (eval (.Name x pos) X.env) Q E s :=
 Calls.Name_function_global I.ok.kind hg (Calls.loadGlobal_global (by rw [I.ok.glob]; exact I.mod.glob.keeps I.bk) hm h) hd
theorem vg {E:Value→Shared→Prop} {pins:List (Addr × Obj)} {s:Shared} {σ:St} {H:Hp} {x:Str} {u:Value} {pos:Pos} {Q:Value→Shared→Prop} (I:Inv X pins σ H s) (hg:Gl X x) (hm:X.mg x=none) (hv:bootBuiltins x=some u) (h:Q u s)
  (hn:x ≠ "__name__":=by decide) (hd:(x == ("__debug__" : Str))=false:=by decide):wpAny (model X.prog X.w) X.A (eval (.Name x pos) X.env) Q E s:=by
 obtain ⟨mb,h1,h2⟩:=I.mod.blt
 exact Calls.Name_function_global I.ok.kind hg (Calls.loadGlobal_builtin (by rw [I.ok.glob]; exact I.mod.glob.keeps I.bk) hm (by rw [I.ok.blt]; exact h1.keeps I.bk) ((h2 x hn).trans hv) h) hd
theorem d7 {x:Str} {v:V} {u:Value} {pos:Pos} (hg:Gl X x) (hm:X.mg x=some u) (r:RelV v u) (hd:(x == ("__debug__" : Str))=false:=by decide):PE X (.Name x pos) (tC v) :=
 fun _ _ _ H _ I h=>lX I hg hm ⟨v,H,I,r,h⟩ hd
theorem lB {x:Str} {v:V} {u:Value} {pos:Pos} (hg:Gl X x) (hm:X.mg x=none) (hv:bootBuiltins x=some u) (r:RelV v u) (hn:x ≠ "__name__":=by decide) (hd:(x == ("__debug__" : Str))=false:=by decide):PE X (.Name x pos) (tC v) :=
 fun _ _ _ H _ I h=>vg I hg hm hv ⟨v,H,I,r,h⟩ hn hd
variable {a b:Expr} {ta tb:TE} {pos:Pos}
def tB (t:TE):TT:=fun σ H Q=>t σ H fun x H1=>∃ c,x=.bl c∧Q c H1
theorem uz {e:Expr} {t:TE} (h:PE X e t) (he:∀ whole,isTrue e X.env whole=(do let v ← whole; standAt e.pos; holding [v] (truthy v)):=by intro _; rfl):PT X e (tB t):=by
 intro pins s σ H Q I hw
 refine isTrue_plain (thn (h pins s σ H _ I hw) fun v s1 ⟨x,H1,I1,r1,q1⟩=>?_) (he _)
 obtain ⟨d,rfl,q⟩:=q1
 cases r1
 exact wpAny_truthy_bool ⟨H1,I1,q⟩
variable {tA tB':TT} {rest:List Expr}
def Qa (t u:TT):TT:=fun σ H Q=>t σ H fun c H1=>if c=true then u σ H1 Q else Q false H1
def tOr (t u:TT):TT:=fun σ H Q=>t σ H fun c H1=>if c=true then Q true H1 else u σ H1 Q
def QB (t:TT):TT:=fun σ H Q=>t σ H fun c H1=>Q (!c) H1
theorem pI (ha:PT X a tA):PW X (.BoolOp .And [a] pos) tA:=by
 intro wh pins s σ H Q I h
 refine isTrue_and (thn (ha pins s σ H Q I h) fun c s1 e=>?_)
 cases c with
 | true=>exact isTrue_and_nil e
 | false=>exact e
theorem vd (ha:PT X a tA):PW X (.BoolOp .Or [a] pos) tA:=by
 intro wh pins s σ H Q I h
 refine isTrue_or (thn (ha pins s σ H Q I h) fun c s1 e=>?_)
 cases c with
 | false=>exact isTrue_or_nil e
 | true=>exact e
theorem vA (ha:PT X a tA) (hb:PW X (.BoolOp .And (b :: rest) pos) tB'):PW X (.BoolOp .And (a :: b :: rest) pos) (Qa tA tB'):=by
 intro wh pins s σ H Q I h
 refine isTrue_and (thn (ha pins s σ H _ I h) fun c s1 ⟨H1,I1,q1⟩=>?_)
 cases c with
 | true=>exact hb wh pins s1 σ H1 Q I1 q1
 | false=>exact ⟨H1,I1,q1⟩
theorem CN (ha:PT X a tA) (hb:PW X (.BoolOp .Or (b :: rest) pos) tB'):PW X (.BoolOp .Or (a :: b :: rest) pos) (tOr tA tB'):=by
 intro wh pins s σ H Q I h
 refine isTrue_or (thn (ha pins s σ H _ I h) fun c s1 ⟨H1,I1,q1⟩=>?_)
 cases c with
 | true=>exact ⟨H1,I1,q1⟩
 | false=>exact hb wh pins s1 σ H1 Q I1 q1
theorem GF (ha:PT X a tA):PT X (.UnaryOp .Not a pos) (QB tA):=by
 intro pins s σ H Q I h
 exact isTrue_not (ha pins s σ H (fun c H1=>Q (!c) H1) I h)
def Ob (ta tb:TE):TE:=fun σ H Q=>ta σ H fun x H1=>∃ c,x=.bl c∧if c=true then tb σ H1 Q else Q (.bl false) H1
def Pa (ta tb:TE):TE:=fun σ H Q=>ta σ H fun x H1=>∃ c,x=.bl c∧if c=true then Q (.bl true) H1 else tb σ H1 Q
def O7 (ta:TE):TE:=fun σ H Q=>ta σ H fun x H1=>∃ c,x=.bl c∧Q (.bl (!c)) H1
theorem Cg {op} {t:TE} (h:PE X a t):PE X (.BoolOp op [a] pos) t:=fun pins s σ H Q I hw=>BoolOp_one (h pins s σ H Q I hw)
theorem Mj (ha:PE X a ta) (hb:PE X (.BoolOp .And (b :: rest) pos) tb):PE X (.BoolOp .And (a :: b :: rest) pos) (Ob ta tb):=by
 intro pins s σ H Q I h
 refine BoolOp_and (thn (ha pins s σ H _ I h) fun v s1 ⟨x,H1,I1,r1,q1⟩=>?_)
 obtain ⟨c,rfl,q1⟩:=q1
 cases r1
 refine wpAny_truthy_bool ?_
 cases c with
 | true=>exact hb pins s1 σ H1 Q I1 q1
 | false=>exact ⟨.bl false,H1,I1,rfl,q1⟩
theorem Hv (ha:PE X a ta) (hb:PE X (.BoolOp .Or (b :: rest) pos) tb):PE X (.BoolOp .Or (a :: b :: rest) pos) (Pa ta tb):=by
 intro pins s σ H Q I h
 refine BoolOp_or (thn (ha pins s σ H _ I h) fun v s1 ⟨x,H1,I1,r1,q1⟩=>?_)
 obtain ⟨c,rfl,q1⟩:=q1
 cases r1
 refine wpAny_truthy_bool ?_
 cases c with
 | false=>exact hb pins s1 σ H1 Q I1 q1
 | true=>exact ⟨.bl true,H1,I1,rfl,q1⟩
theorem Nk (ha:PE X a ta):PE X (.UnaryOp .Not a pos) (O7 ta):=by
 intro pins s σ H Q I h
 refine UnaryOp_ (thn (ha pins s σ H _ I h) fun v s1 ⟨x,H1,I1,r1,q1⟩=>?_)
 obtain ⟨c,rfl,q1⟩:=q1
 cases r1
 exact not_of (wpAny_truthy_bool ⟨.bl (!c),H1,I1,rfl,q1⟩)
def tIf (t:TT) (ta tb:TE):TE:=fun σ H Q=>t σ H fun c H1=>if c=true then ta σ H1 Q else tb σ H1 Q
theorem nY {c:Expr} (hc:PT X c tA) (ha:PE X a ta) (hb:PE X b tb):PE X (.IfExp c a b pos) (tIf tA ta tb):=by
 intro pins s σ H Q I h
 refine wpAny_IfExp (thn (hc pins s σ H _ I h) fun d s1 ⟨H1,I1,q1⟩=>?_)
 cases d with
 | true=>exact ha pins s1 σ H1 Q I1 q1
 | false=>exact hb pins s1 σ H1 Q I1 q1
end
end L2
namespace L2
open PySem PySem.Spec PyProof.Rows
def SqL (K:PySem.W.Frag) (H:Hp) (a:Addr) (xs:List V):Prop :=
 Rd H a (.lst xs) ∨
  ∃ (o:Obj) (its:Array Value) (n:Nat),K.lookup a=some o∧o.cls=.type "list"∧o.dict=none∧o.data=.seq its n∧its.size≤sizeLine∧Vals xs its.toList
def SqT (K:PySem.W.Frag) (H:Hp) (a:Addr) (xs:List V):Prop :=
 Rd H a (.tup xs) ∨
  ∃ (o:Obj) (its:Array Value) (n:Nat),K.lookup a=some o∧o.cls=.type "tuple"∧o.data=.seq its n∧its.size≤sizeLine∧Vals xs its.toList
def QV:Value→Option V
 | .none=>some .non
 | .bool b=>some (.bl b)
 | .int i _=>some (.int i)
 | .str x _=>some (.str x)
 | .bytes b _=>some (.byt b)
 | .float b _=>some (.flt b)
 | .ref a=>some (.ref a)
 | .type n=>some (.ty n)
 | _=>none
theorem RelV.abs {x:V} {u:Value} (r:RelV x u):QV u=some x:=by
 cases x with
 | non=>cases r; rfl
 | bl _=>cases r; rfl
 | int _=>obtain ⟨t,rfl⟩:=r; rfl
 | str _=>obtain ⟨t,rfl⟩:=r; rfl
 | byt _=>obtain ⟨t,rfl⟩:=r; rfl
 | flt _=>obtain ⟨t,rfl⟩:=r; rfl
 | ref _=>cases r; rfl
 | ty _=>cases r; rfl
theorem RelV.inj {x y:V} {u:Value} (r:RelV x u) (q:RelV y u):x=y:=Option.some.inj (r.abs.symm.trans q.abs)
theorem Vals.inj:∀ {xs ys:List V} {us:List Value},Vals xs us→Vals ys us→xs=ys
 | _,_,_,.nil,.nil=>rfl
 | _,_,_,.cons r t,.cons r' t'=>by rw [r.inj r',Vals.inj t t']
section
variable {X:Cx} {pins:List (Addr × Obj)} {σ:St} {H:Hp} {s:Shared} {a:Addr} {xs ys:List V}
theorem SqL.of {K:PySem.W.Frag} (h:H a=some (.lst xs)):SqL K H a xs:=.inl (.inl h)
theorem SqT.of {K:PySem.W.Frag} (h:H a=some (.tup xs)):SqT K H a xs:=.inl (.inl h)
theorem Inv.list (I:Inv X pins σ H s) (h:SqL X.K H a xs):∃ its:List Value,Vals xs its∧PlainL s.heap a its.toArray∧xs.length≤sizeLine:=by
 rcases h with h | ⟨o,its,n,hk,hc,hd,hs,hz,r⟩
 ·obtain ⟨z,its,n,r,e⟩:=h.ok I.hok
  exact ⟨its,r,⟨_,n,e,rfl,rfl,rfl⟩,z⟩
 ·refine ⟨its.toList,r,⟨o,n,I.kIn a o hk,hc,hd,by simpa using hs⟩,?_⟩
  have e:=r.length
  simp only [Array.length_toList] at e
  omega
theorem Inv.tuple (I:Inv X pins σ H s) (h:SqT X.K H a xs):∃ its:List Value,Vals xs its∧IsTup s.heap a its.toArray∧xs.length≤sizeLine:=by
 rcases h with h | ⟨o,its,n,hk,hc,hs,hz,r⟩
 ·obtain ⟨z,its,r,p⟩:=h.ok I.hok
  exact ⟨its,r,p,z⟩
 ·refine ⟨its.toList,r,⟨o,I.kIn a o hk,hc,n,by simpa using hs⟩,?_⟩
  have e:=r.length
  simp only [Array.length_toList] at e
  omega
theorem Inv.list_inj (I:Inv X pins σ H s) (h:SqL X.K H a xs) (h':SqL X.K H a ys):xs=ys:=by
 obtain ⟨its,r,⟨o,n,e,_,_,d⟩,_⟩:=I.list h
 obtain ⟨its',r',⟨o',n',e',_,_,d'⟩,_⟩:=I.list h'
 rw [e] at e'; cases e'
 rw [d] at d'
 injection d' with d1 _
 have:its=its':=by simpa using congrArg Array.toList d1
 subst this
 exact r.inj r'
theorem Inv.tuple_inj (I:Inv X pins σ H s) (h:SqT X.K H a xs) (h':SqT X.K H a ys):xs=ys:=by
 obtain ⟨its,r,⟨o,e,_,n,d⟩,_⟩:=I.tuple h
 obtain ⟨its',r',⟨o',e',_,n',d'⟩,_⟩:=I.tuple h'
 rw [e] at e'; cases e'
 rw [d] at d'
 injection d' with d1 _
 have:its=its':=by simpa using congrArg Array.toList d1
 subst this
 exact r.inj r'
end
abbrev Cx.wish (X:Cx) (E:Value→Shared→Prop):Cx:={ X with xe:=E }
abbrev Cx.nox (X:Cx):Cx:=X.wish fun _ _=>False
theorem Cx.Ok.wish {X:Cx} (ok:X.Ok) (E:Value→Shared→Prop):(X.wish E).Ok :=
 ⟨ok.mod,ok.kind,ok.glob,ok.blt,ok.above,ok.inj,ok.has,ok.cab,ok.hd,ok.frames,ok.stk,ok.exf,ok.bs,ok.bsz,ok.noex,ok.exfs,ok.funs,ok.frf⟩
theorem Cx.Ok.unwish {X:Cx} {E:Value→Shared→Prop} (ok:(X.wish E).Ok):X.Ok :=
 ⟨ok.mod,ok.kind,ok.glob,ok.blt,ok.above,ok.inj,ok.has,ok.cab,ok.hd,ok.frames,ok.stk,ok.exf,ok.bs,ok.bsz,ok.noex,ok.exfs,ok.funs,ok.frf⟩
section
variable {X:Cx} {pins:List (Addr × Obj)} {σ:St} {H:Hp} {s:Shared} {E:Value→Shared→Prop}
theorem Inv.wish (I:Inv X pins σ H s) (E:Value→Shared→Prop):Inv (X.wish E) pins σ H s:=⟨I.ok.wish E,I.os,I.bare,I.base,I.loc,I.cell,I.free,I.freeC,I.pin,I.hok,I.len⟩
theorem Inv.unwish (I:Inv (X.wish E) pins σ H s):Inv X pins σ H s:=⟨I.ok.unwish,I.os,I.bare,I.base,I.loc,I.cell,I.free,I.freeC,I.pin,I.hok,I.len⟩
theorem SP.unwish {D:Ends} {f:Flow} {s':Shared} (h:SP (X.wish E) pins D f s'):SP X pins D f s':=by
 cases f with
 | next=>obtain ⟨σ',H',I,q⟩:=h; exact ⟨σ',H',I.unwish,q⟩
 | brk=>obtain ⟨σ',H',I,q⟩:=h; exact ⟨σ',H',I.unwish,q⟩
 | cont=>obtain ⟨σ',H',I,q⟩:=h; exact ⟨σ',H',I.unwish,q⟩
 | ret u=>obtain ⟨v,σ',H',I,r,q⟩:=h; exact ⟨v,σ',H',I.unwish,r,q⟩
theorem PSs.nox {st:List Stmt} {t:TS} (h:PSs X.nox st t):PSs X st t:=fun pins s σ H D I hw =>
 wpAny_mono (h pins s σ H D (I.wish _) hw) (fun _ _ q=>q.unwish) fun _ _ z=>False.elim z
end
section
variable {X:Cx} {st:Stmt} {rest:List Stmt} {t u:TS} {e:Expr} {te:TE} {pos:Pos}
def OD:TS:=fun D σ H=>D.nx σ H
def Nr (t u:TS):TS:=fun D σ H=>t { D with nx:=u D } σ H
theorem bH:PSs X [] OD:=fun _ _ σ H _ I h=>wpAny_execs_nil ⟨σ,H,I,h⟩
theorem au (h1:PS X st t) (h2:PSs X rest u):PSs X (st :: rest) (Nr t u):=by
 intro pins s σ H D I h
 refine wpAny_execs_cons (thn (h1 pins s σ H { D with nx:=u D } I h) fun f s1 q=>?_)
 cases f with
 | next =>
  obtain ⟨σ',H',I',q⟩:=q
  exact h2 pins s1 σ' H' D I' q
 | ret v=>exact q
 | brk=>exact q
 | cont=>exact q
theorem aD (h1:PS X st t):PSs X [st] t:=by
 intro pins s σ H D I h
 refine wpAny_execs_cons (thn (h1 pins s σ H D I h) fun f s1 q=>?_)
 cases f with
 | next=>exact wpAny_execs_nil q
 | ret v=>exact q
 | brk=>exact q
 | cont=>exact q
theorem Inv.quiet {pins:List (Addr × Obj)} {σ:St} {H:Hp} {s:Shared} (I:Inv X pins σ H s):interactive X.env=false:=by simp [interactive,I.ok.kind]
def Oo (te:TE):TS:=fun D σ H=>te σ H fun _ H1=>D.nx σ H1
theorem dO (he:PE X e te) (hs:swapsWith e none pos.line X.env=pure false:=by rfl):PS X (.Expr e pos) (Oo te):=by
 intro pins s σ H D I h
 exact wpAny_Expr_any (thn (he pins s σ H _ I h) fun v s1 ⟨x,H1,I1,r1,q1⟩=>⟨σ,H1,I1,q1⟩) I.quiet hs
def Q5 (te:TE):TS:=fun D σ H=>te σ H D.rt
theorem aV (he:PE X e te):PS X (.Return (some e) pos) (Q5 te):=by
 intro pins s σ H D I h
 exact wpAny_Return_some (thn (he pins s σ H _ I h) fun v s1 ⟨x,H1,I1,r1,q1⟩=>⟨x,σ,H1,I1,r1,q1⟩)
def Rh (c:TT) (t u:TS):TS:=fun D σ H=>c σ H fun b H1=>if b=true then t D σ H1 else u D σ H1
theorem dJ {c:Expr} {a b:List Stmt} {tc:TT} (hc:PT X c tc) (ha:PSs X a t) (hb:PSs X b u):PS X (.If c a b pos) (Rh tc t u):=by
 intro pins s σ H D I h
 refine wpAny_If (thn (hc pins s σ H _ I h) fun d s1 ⟨H1,I1,q1⟩=>?_)
 cases d with
 | true=>exact ha pins s1 σ H1 D I1 q1
 | false=>exact hb pins s1 σ H1 D I1 q1
end
abbrev TG:=V→St→Hp→(St→Hp→Prop)→Prop
abbrev TGs:=List V→St→Hp→(St→Hp→Prop)→Prop
def PG (X:Cx) (target:Expr) (t:TG):Prop :=
 ∀ (pins:List (Addr × Obj)) (s:Shared) (σ:St) (H:Hp) (v:V) (u:Value) (Q:St→Hp→Prop),Inv X pins σ H s→RelV v u→t v σ H Q →
  wpAny (model X.prog X.w) X.A (assign target X.env u) (fun _ s'=>∃ σ' H',Inv X pins σ' H' s'∧Q σ' H') X.xe s
def PGs (X:Cx) (ts:List Expr) (t:TGs):Prop :=
 ∀ (pins:List (Addr × Obj)) (s:Shared) (σ:St) (H:Hp) (vs:List V) (us:List Value) (Q:St→Hp→Prop),Inv X pins σ H s→Vals vs us→t vs σ H Q →
  wpAny (model X.prog X.w) X.A (assignInOrder ((assignEach ts X.env).map (·.2)) us) (fun _ s'=>∃ σ' H',Inv X pins σ' H' s'∧Q σ' H') X.xe s
section
variable {X:Cx} {pos:Pos}
def xr (i:Nat):TG:=fun v σ H Q=>Q (σ.set i (some v)) H
theorem aO {i:Nat} {x:Str} (hN:X.N.Nodup) (hi:X.N[i]?=some x) (hx:Loc X.env.scope x) (hf:X.fn x=true∨X.env.scope.names.lookup x=some .local:=by first | exact .inl rfl | exact .inr rfl | assumption):PG X (.Name x pos) (xr i):=by
 intro pins s σ H v u Q I r h
 exact wpAny_assign_Name (pW I hN hi hx r (fun s' I'=>⟨_,H,I',h⟩) hf)
def Ra:TGs:=fun vs σ H Q=>vs=[]∧Q σ H
def O4 (t:TG) (u:TGs):TGs:=fun vs σ H Q=>∃ v r,vs=v :: r∧t v σ H fun σ' H'=>u r σ' H' Q
theorem kI:PGs X [] Ra:=by
 intro pins s σ H vs us Q I r h
 obtain ⟨e,h⟩:=h
 subst e
 cases r
 exact assignInOrder_nil ⟨σ,H,I,h⟩
theorem bR {e:Expr} {es:List Expr} {t:TG} {u:TGs} (h1:PG X e t) (h2:PGs X es u)
  (hs:(assignEach (e :: es) X.env).map (·.2)=assign e X.env :: (assignEach es X.env).map (·.2):=by rfl):PGs X (e :: es) (O4 t u):=by
 intro pins s σ H vs us Q I r h
 obtain ⟨v,vr,e1,h⟩:=h
 subst e1
 cases r with
 | cons r rr =>
  rw [hs]
  refine assignInOrder_cons (thn (h1 pins s σ H _ _ _ I r h) fun _ s1 ⟨σ1,H1,I1,q1⟩=>?_)
  exact h2 pins s1 σ1 H1 _ _ Q I1 rr q1
def Rm (K:PySem.W.Frag) (n:Nat) (t:TGs):TG:=fun v σ H Q=>∃ a xs,v=.ref a∧SqT K H a xs∧xs.length=n∧t xs σ H Q
theorem uD {es:List Expr} {k:Nat} {t:TGs} {n:Nat} (hc:X.calm=true) (h:PGs X es t)
  (hn:(assignEach es X.env).length=n:=by rfl) (hst:(assignEach es X.env).findIdx? (·.1)=none:=by rfl):PG X (.Tuple es k pos) (Rm X.K n t):=by
 intro pins s σ H v u Q I r hw
 obtain ⟨a,xs,e1,hq,hl,hw⟩:=hw
 subst e1
 cases r
 obtain ⟨its,rv,ht,hz⟩:=I.tuple hq
 refine assign_Tuple_tuple (I.ok.hd hc) ht (by simp [hn,← hl,rv.length]) hst fun h' hx=>?_
 have I1:Inv X pins σ H { s with heap:=h' }:=I.kept (t':=s.toks) fun b o e=>hx b o (Nat.ne_of_lt (Heap.lt_size e)) e
 exact h pins _ σ H xs _ Q I1 (by simpa using rv) hw
def Ng (te:TE) (g:TG):TS:=fun D σ H=>te σ H fun x H1=>g x σ H1 D.nx
theorem Bl {tg e:Expr} {te:TE} {g:TG} (he:PE X e te) (hg:PG X tg g) (hs:swapsWithSole [tg] e pos.line X.env=pure false:=by rfl) (hw:swappedStores [tg] e X.env=pure none:=by rfl)
  (h1:(assignEach [tg] X.env).map (·.2)=[assign tg X.env]:=by rfl):PS X (.Assign [tg] e pos) (Ng te g):=by
 intro pins s σ H D I h
 refine wpAny_Assign_stores (thn (he pins s σ H _ I h) fun v s1 ⟨x,H1,I1,r1,q1⟩=>?_) hs hw
 rw [h1]
 exact thn (hg pins s1 σ H1 x v _ I1 r1 q1) fun _ s2 q=>q
theorem aH {i:Nat} {x:Str} {e:Expr} {te:TE} {pos':Pos} (hN:X.N.Nodup) (hi:X.N[i]?=some x) (hx:Loc X.env.scope x) (he:PE X e te) (hs:swapsWith e (some (.Name x pos')) pos.line X.env=pure false:=by rfl) (hf:X.fn x=true∨X.env.scope.names.lookup x=some .local:=by first | exact .inl rfl | exact .inr rfl | assumption) :
  PS X (.Assign [.Name x pos'] e pos) (Ng te (xr i)):=by
 intro pins s σ H D I h
 refine wpAny_Assign_Name (thn (he pins s σ H _ I h) fun v s1 ⟨y,H1,I1,r1,q1⟩=>?_) hs
 exact pW I1 hN hi hx r1 (fun s2 I2=>⟨_,H1,I2,q1⟩) hf
end
section
variable {X:Cx} {pos:Pos}
def KH (c:TT) (tb:TS):TS:=fun D σ H=>∃ W:Nat→St→Hp→Prop,(∃ m,W m σ H)∧∀ m σ H,W m σ H →
 c σ H fun b H1=>if b=true then ∃ N:St→Hp→Prop,(∀ σ' H',N σ' H'→∃ m',m' < m∧W m' σ' H')∧tb { D with nx:=N,ct:=N,bk:=D.nx } σ H1 else D.nx σ H1
theorem Eo {c:Expr} {body:List Stmt} {tc:TT} {tb:TS} (hp:PassesOwn (model X.prog X.w) X.A X.env X.xe) (hc:PT X c tc) (hb:PSs X body tb):PS X (.While c body [] pos) (KH tc tb):=by
 intro pins s σ H D I h
 obtain ⟨W,⟨m0,w0⟩,turn⟩:=h
 refine wpAny_While (codeAny_whileLoop (fun n s'=>∃ σ' H',Inv X pins σ' H' s'∧W n σ' H') ?_ m0 ⟨σ,H,I,w0⟩)
 rintro n s1 ⟨σ1,H1,I1,w1⟩
 refine wpAny_passesOwn hp (thn (hc pins s1 σ1 H1 _ I1 (turn n σ1 H1 w1)) fun b s2 ⟨H2,I2,q2⟩=>?_)
 cases b with
 | true =>
  obtain ⟨N,hN,q2⟩:=q2
  rw [if_pos rfl]
  refine wpAny_passesOwn hp (thn (hb pins s2 σ1 H2 _ I2 q2) fun f s3 q3=>?_)
  cases f with
  | next =>
   obtain ⟨σ3,H3,I3,n3⟩:=q3
   obtain ⟨m',hm,w3⟩:=hN σ3 H3 n3
   exact ⟨m',hm,σ3,H3,I3,w3⟩
  | cont =>
   obtain ⟨σ3,H3,I3,n3⟩:=q3
   obtain ⟨m',hm,w3⟩:=hN σ3 H3 n3
   exact ⟨m',hm,σ3,H3,I3,w3⟩
  | brk=>exact q3
  | ret v=>exact q3
 | false =>
  rw [if_neg Bool.false_ne_true]
  exact wpAny_execs_nil ⟨σ1,H2,I2,q2⟩
end
structure It where
 go:Nat→Hp→Prop
 yld:Nat→Hp→V→Hp→Prop
 stop:Nat→Hp→Prop
def BX (X:Cx) (pins:List (Addr × Obj)) (H:Hp) (b:Addr):Prop :=
 H b=none∧b≠X.env.locals∧b ∉ X.fs∧(b∈X.ex∨X.s₀.heap.objs.size≤b)∧(∀ x c,X.env.cells.lookup x=some c→c≠b)∧∀ p∈X.pn++pins,p.1≠b
theorem Inv.fpOk {X:Cx} {pins:List (Addr × Obj)} {σ:St} {H H':Hp} {s:Shared} {b:Addr} (I:Inv X pins σ H s) (hb:s.heap.objs.size≤b) (hn:H' b=none):BX X pins H' b:=by
 refine ⟨hn,Nat.ne_of_gt (Nat.lt_of_lt_of_le I.lt hb),I.nofs hb,.inr (Nat.le_trans I.sz hb),fun x c e z=>?_,fun p hp z=>?_⟩
 ·obtain ⟨v,q⟩:=I.cell x c e
  exact absurd (Nat.lt_of_lt_of_le q.lt (by rw [z]; exact hb)) (Nat.lt_irrefl _)
 ·exact absurd (Nat.lt_of_lt_of_le (Heap.lt_size (I.pin p hp).1) (by rw [z]; exact hb)) (Nat.lt_irrefl _)
structure Turn (P:Program) (w:World) (K:PySem.W.Frag) (tg:Expr) (J:It) (fp:List Addr) (it:Addr) (tn:Nat→Heap→Prop):Prop where
 mem:it∈fp
 obj:∀ i h,tn i h→∀ b∈fp,∃ o,h.get? b=some o∧∀ v,o.data≠.cell v
 keep:∀ i h h',tn i h→(∀ b∈fp,∀ o,h.get? b=some o→h'.get? b=some o)→tn i h'
 item:∀ (X:Cx),X.prog=P→X.w=w→X.K=K→X.calm=true→∀ (i:Nat) (pins:List (Addr × Obj)) (s:Shared) (σ:St) (H:Hp) (E:Value→Shared→Prop),Inv X pins σ H s→(∀ b∈fp,BX X pins H b)→tn i s.heap→J.go i H →
  wpAny (model P w) X.A (pyNext (.ref it)) (fun r s1=>∃ u,r=some u ∧
   wpAny (model P w) X.A (letOwnedTupleGo tg (.ref it) u) (fun _ s2=>∃ x H',Inv X pins σ H' s2∧RelV x u∧J.yld i H x H'∧tn (i+1) s2.heap∧∀ b∈fp,H' b=none) E s1) E s
 done:∀ (X:Cx),X.prog=P→X.w=w→X.K=K→X.calm=true→∀ (i:Nat) (pins:List (Addr × Obj)) (s:Shared) (σ:St) (H:Hp) (E:Value→Shared→Prop),Inv X pins σ H s→(∀ b∈fp,BX X pins H b)→tn i s.heap→J.stop i H →
  wpAny (model P w) X.A (pyNext (.ref it)) (fun r s1=>r=none∧Inv X pins σ H s1) E s
 self:∀ (A:Around) (i:Nat) (s:Shared) (Q:Value→Shared→Prop) (E:Value→Shared→Prop),tn i s.heap→Q (.ref it) s→wpAny (model P w) A (pyIter (.ref it)) Q E s
abbrev TI:=St→Hp→(It→Hp→Prop)→Prop
def PIE (X:Cx) (pins:List (Addr × Obj)) (σ:St) (tg:Expr) (R:It→Hp→Prop) (itv:Value) (s2:Shared):Prop :=
 ∃ (it:Addr) (fp:List Addr) (tn:Nat→Heap→Prop) (J:It) (H':Hp),itv=.ref it∧Inv X pins σ H' s2∧Turn X.prog X.w X.K tg J fp it tn∧tn 0 s2.heap∧(∀ b∈fp,BX X pins H' b)∧R J H'
def PI (X:Cx) (tg iter:Expr) (wi:TI):Prop :=
 ∀ (pins:List (Addr × Obj)) (s:Shared) (σ:St) (H:Hp) (R:It→Hp→Prop),Inv X pins σ H s→wi σ H R →
  wpAny (model X.prog X.w) X.A (eval iter X.env) (fun v s1=>wpAny (model X.prog X.w) X.A (pyIter v) (PIE X pins σ tg R) X.xe s1) X.xe s
theorem FT {M:Model} {A:Around} {E:Value→Shared→Prop} {s:Shared} {tg:Expr} {it:Addr} {u:Value} {o:Obj} {n:String} {vs:Array Value} {Q:Unit→Shared→Prop} (ho:s.heap.get? it=some o) (hc:o.cls=.type n) (hd:o.data=.fields vs)
    (hn:["enumerate", "zip", "dict_itemiterator", "dict_reverseitemiterator", "odict_iterator", "itertools.zip_longest", "itertools.pairwise"].contains n=false) (hQ:Q () s):wpAny M A (letOwnedTupleGo tg (.ref it) u) Q E s:=by
  unfold letOwnedTupleGo
  cases tg <;> first
    | exact wpAny_pure hQ
    | (cases u <;> first
        | exact wpAny_pure hQ
        | (refine wpAny_bind (wpAny_load ho ?_)
           rw [hc,hd]
           show wpAny M A (if (["enumerate", "zip", "dict_itemiterator", "dict_reverseitemiterator", "odict_iterator", "itertools.zip_longest", "itertools.pairwise"].contains n && vs[0]? == some (rawInt _))=true then _ else _) Q E s
           rw [if_neg (by intro h; rw [hn,Bool.false_and] at h; cases h)]
           exact wpAny_pure hQ))
def Itl (K:PySem.W.Frag) (a:Addr):It :=
 ⟨fun i H=>∃ xs x,SqL K H a xs∧xs[i]?=some x,fun i H x H'=>H'=H∧∀ xs,SqL K H a xs→xs[i]?=some x,fun i H=>∃ xs,SqL K H a xs∧xs.length≤i⟩
def Itt (K:PySem.W.Frag) (a:Addr):It :=
 ⟨fun i H=>∃ xs x,SqT K H a xs∧xs[i]?=some x,fun i H x H'=>H'=H∧∀ xs,SqT K H a xs→xs[i]?=some x,fun i H=>∃ xs,SqT K H a xs∧xs.length≤i⟩
def Itr (lo:Int) (n:Nat):It:=⟨fun i _=>i < n,fun i H x H'=>H'=H∧x=.int (lo+i),fun i _=>n≤i⟩
theorem Al {P:Program} {w:World} {K:PySem.W.Frag} {tg:Expr} (a it:Addr):Turn P w K tg (Itl K a) [it] it (fun i h=>h.IsListIter it a i) where
 mem:=by simp
 obj:=fun i h st b hb=>by
  have e:b=it:=by simpa using hb
  subst e
  obtain ⟨o,e,c,d⟩:=st
  exact ⟨o,e,fun v z=>by rw [d] at z; cases z⟩
 keep:=fun i h h' st k=>st.at fun o e=>k it (by simp) o e
 item:=by
  intro X hP hw hK hc i pins s σ H E I hf st hg
  subst hP hw hK
  obtain ⟨xs,x,hq,hx⟩:=hg
  obtain ⟨its,rv,p,hz⟩:=I.list hq
  obtain ⟨u,hu,ru⟩:=rv.get hx
  obtain ⟨f0,f1,f2,f3,f4,f5⟩:=hf it (by simp)
  refine wpAny_pyNext_list_item st p.isList (x:=u) (by simpa using hu) fun h' st' sb=>?_
  have I1:Inv X pins σ H { s with heap:=h' }:=I.turned (t':=s.toks) (fun b o hb e=>(sb.2 b hb).trans e) f0 f1 f3 f4 f5
  obtain ⟨o,e,c,d⟩:=id st'
  exact ⟨u,rfl,FT (s:={ s with heap:=h' }) e c d (by decide) ⟨x,H,I1,ru,⟨rfl,fun ys hy=>by rw [I.list_inj hy hq]; exact hx⟩,st',fun b hb=>(hf b hb).1⟩⟩
 done:=by
  intro X hP hw hK hc i pins s σ H E I hf st hg
  subst hP hw hK
  obtain ⟨xs,hq,hx⟩:=hg
  obtain ⟨its,rv,p,hz⟩:=I.list hq
  obtain ⟨f0,f1,f2,f3,f4,f5⟩:=hf it (by simp)
  have hl:=rv.length
  exact wpAny_pyNext_list_end (I.ok.hd hc) st p.isList (by simp; omega) fun h' eb=>⟨rfl,I.turned (t':=s.toks) (fun b o hb e=>eb b o hb e) f0 f1 f3 f4 f5⟩
 self:=fun _ _ _ _ _ st h=>wpAny_pyIter_listiter st h
theorem wB {P:Program} {w:World} {K:PySem.W.Frag} {tg:Expr} (a it:Addr):Turn P w K tg (Itt K a) [it] it (fun i h=>h.IsTupleIter it a i) where
 mem:=by simp
 obj:=fun i h st b hb=>by
  have e:b=it:=by simpa using hb
  subst e
  obtain ⟨o,e,c,d⟩:=st
  exact ⟨o,e,fun v z=>by rw [d] at z; cases z⟩
 keep:=fun i h h' st k=>st.at fun o e=>k it (by simp) o e
 item:=by
  intro X hP hw hK hc i pins s σ H E I hf st hg
  subst hP hw hK
  obtain ⟨xs,x,hq,hx⟩:=hg
  obtain ⟨its,rv,p,hz⟩:=I.tuple hq
  obtain ⟨u,hu,ru⟩:=rv.get hx
  obtain ⟨f0,f1,f2,f3,f4,f5⟩:=hf it (by simp)
  refine wpAny_pyNext_tuple_item st (show s.heap.IsTuple a its.toArray from p) (x:=u) (by simpa using hu) fun h' st' sb=>?_
  have I1:Inv X pins σ H { s with heap:=h' }:=I.turned (t':=s.toks) (fun b o hb e=>(sb.2 b hb).trans e) f0 f1 f3 f4 f5
  obtain ⟨o,e,c,d⟩:=id st'
  exact ⟨u,rfl,FT (s:={ s with heap:=h' }) e c d (by decide) ⟨x,H,I1,ru,⟨rfl,fun ys hy=>by rw [I.tuple_inj hy hq]; exact hx⟩,st',fun b hb=>(hf b hb).1⟩⟩
 done:=by
  intro X hP hw hK hc i pins s σ H E I hf st hg
  subst hP hw hK
  obtain ⟨xs,hq,hx⟩:=hg
  obtain ⟨its,rv,p,hz⟩:=I.tuple hq
  obtain ⟨f0,f1,f2,f3,f4,f5⟩:=hf it (by simp)
  have hl:=rv.length
  exact wpAny_pyNext_tuple_end (I.ok.hd hc) st (show s.heap.IsTuple a its.toArray from p) (by simp; omega) fun h' eb=>⟨rfl,I.turned (t':=s.toks) (fun b o hb e=>eb b o hb e) f0 f1 f3 f4 f5⟩
 self:=fun _ _ _ _ _ st h=>wpAny_pyIter_tupleiter st h
theorem xP {P:Program} {w:World} {K:PySem.W.Frag} {tg:Expr} (it:Addr) (lo:Int) (n:Nat):Turn P w K tg (Itr lo n) [it] it (fun i h=>IsRangeIter h it (lo+(i:Nat) * 1) ((n:Int) - (i:Nat)) 1) where
 mem:=by simp
 obj:=fun i h st b hb=>by
  have e:b=it:=by simpa using hb
  subst e
  exact ⟨_,st,fun v z=>by
   have z':Data.fields _=Data.cell v:=z
   cases z'⟩
 keep:=fun i h h' st k=>k it (by simp) _ st
 item:=by
  intro X hP hw hK hc i pins s σ H E I hf st hg
  subst hP hw hK
  obtain ⟨f0,f1,f2,f3,f4,f5⟩:=hf it (by simp)
  have W:=Walks.range (prog:=X.prog) (w:=X.w) (I.ok.hd hc) it lo 1 n
  refine W.item i s _ _ hg st fun v h' tk hv st' kk=>?_
  obtain ⟨t,rfl⟩:=hv
  have I1:Inv X pins σ H { s with heap:=h',toks:=tk }:=I.turned (fun b o hb e=>kk b o (by simpa using hb) e) f0 f1 f3 f4 f5
  refine ⟨_,rfl,FT (s:={ s with heap:=h',toks:=tk }) (n:="range_iterator") st' rfl rfl (by decide) ⟨.int (lo+i),H,I1,⟨t,?_⟩,⟨rfl,rfl⟩,st',fun b hb=>(hf b hb).1⟩⟩
  rw [Int.mul_one]
 done:=by
  intro X hP hw hK hc i pins s σ H E I hf st hg
  subst hP hw hK
  obtain ⟨f0,f1,f2,f3,f4,f5⟩:=hf it (by simp)
  exact wpAny_pyNext_range_end (I.ok.hd hc) st (by have:n≤i:=hg; omega) fun h' eb=>⟨rfl,I.turned (t':=s.toks) (fun b o hb e=>eb b o hb e) f0 f1 f3 f4 f5⟩
 self:=fun _ _ _ _ _ st h=>wpAny_pyIter_rangeiter st h
end L2
namespace L2
open PySem PySem.Spec PyProof.Rows
section
variable {X:Cx} {tg:Expr}
def Nz (K:PySem.W.Frag) (tl:TE):TI:=fun σ H R=>tl σ H fun x H1=>∃ a,x=.ref a∧(∃ xs,SqL K H1 a xs)∧R (Itl K a) H1
def Qh (K:PySem.W.Frag) (tl:TE):TI:=fun σ H R=>tl σ H fun x H1=>∃ a,x=.ref a∧(∃ xs,SqT K H1 a xs)∧R (Itt K a) H1
theorem jw {l:Expr} {tl:TE} (hl:PE X l tl):PI X tg l (Nz X.K tl):=by
 intro pins s σ H R I h
 refine thn (hl pins s σ H _ I h) fun v s1 ⟨x,H1,I1,r1,q1⟩=>?_
 obtain ⟨a,e,⟨xs,hq⟩,q⟩:=q1
 subst e
 cases r1
 obtain ⟨its,rv,p,hz⟩:=I1.list hq
 refine wpAny_pyIter_list p.isList ?_
 refine ⟨s1.heap.objs.size,[s1.heap.objs.size],_,_,H1,rfl,I1.kept (t':=s1.toks) fun b o e=>Heap.get?_push_of_some _ e,Al a _,⟨_,Heap.get?_push_size _ rfl,rfl,rfl⟩,fun b hb=>?_,q⟩
 have e:b=s1.heap.objs.size:=by simpa using hb
 subst e
 exact I1.fpOk (Nat.le_refl _) (I1.hok.fresh (Nat.le_refl _))
theorem fO {l:Expr} {tl:TE} (hl:PE X l tl):PI X tg l (Qh X.K tl):=by
 intro pins s σ H R I h
 refine thn (hl pins s σ H _ I h) fun v s1 ⟨x,H1,I1,r1,q1⟩=>?_
 obtain ⟨a,e,⟨xs,hq⟩,q⟩:=q1
 subst e
 cases r1
 obtain ⟨its,rv,p,hz⟩:=I1.tuple hq
 refine wpAny_pyIter_tuple (show s1.heap.IsTuple a its.toArray from p) ?_
 refine ⟨s1.heap.objs.size,[s1.heap.objs.size],_,_,H1,rfl,I1.kept (t':=s1.toks) fun b o e=>Heap.get?_push_of_some _ e,wB a _,⟨_,Heap.get?_push_size _ rfl,rfl,rfl⟩,fun b hb=>?_,q⟩
 have e:b=s1.heap.objs.size:=by simpa using hb
 subst e
 exact I1.fpOk (Nat.le_refl _) (I1.hok.fresh (Nat.le_refl _))
theorem Dm {pins:List (Addr × Obj)} {σ:St} {H:Hp} {s:Shared} {R:It→Hp→Prop} {E:Value→Shared→Prop} {lo hi:Int} {t u v:Tok} {tk:Nat} (I:Inv X pins σ H s) (h1:-(2 ^ 62)≤lo) (h2:lo < 2 ^ 62) (h3:-(2 ^ 62)≤hi) (h4:hi < 2 ^ 62)
  (q:R (Itr lo (hi - lo).toNat) H):wpAny (model X.prog X.w) X.A (pyIter (.ref s.heap.objs.size)) (PIE X pins σ tg R) E { s with heap:=s.heap.push { cls:=.type "range",data:=.fields #[.int lo t,.int hi u,.int 1 v] },toks:=tk }:=by
 refine wpAny_pyIter_range (IsRange.new ..) (small_one h1 h2 h3 h4) ?_
 have I1:Inv X pins σ H { s with heap:=s.heap.push { cls:=.type "range",data:=.fields #[.int lo t,.int hi u,.int 1 v] },toks:=tk }:=I.kept fun b o e=>Heap.get?_push_of_some _ e
 refine ⟨(s.heap.push { cls:=.type "range",data:=.fields #[.int lo t,.int hi u,.int 1 v] }).objs.size,[(s.heap.push { cls:=.type "range",data:=.fields #[.int lo t,.int hi u,.int 1 v] }).objs.size],_,_,H,rfl,
  I1.kept (t':=tk) fun b o e=>Heap.get?_push_of_some _ e,xP _ lo (hi - lo).toNat,?_,fun b hb=>?_,q⟩
 ·have e1:lo+((0:Nat):Int) * 1=lo:=by simp
  have e2:(((hi - lo).toNat:Nat):Int) - ((0:Nat):Int)=Builtin.Range.rangeSize lo hi 1:=by rw [rangeSize_one]; split <;> omega
  show IsRangeIter _ _ (lo+((0:Nat):Int) * 1) ((((hi - lo).toNat:Nat):Int) - ((0:Nat):Int)) 1
  rw [e1,e2]
  exact Heap.get?_push_size _ rfl
 ·have e:b=(s.heap.push { cls:=.type "range",data:=.fields #[.int lo t,.int hi u,.int 1 v] }).objs.size:=by simpa using hb
  subst e
  exact I1.fpOk (Nat.le_refl _) (I1.hok.fresh (Nat.le_refl _))
def Pz (ta:TA):TI:=fun σ H R=>ta σ H fun vs H1=>∃ j:Int,vs=[.int j]∧-(2 ^ 62)≤j∧j < 2 ^ 62∧R (Itr 0 j.toNat) H1
theorem cA {a:Expr} {ta:TA} {p pos:Pos} (hg:Gl X "range") (hm:X.mg "range" = none) (ha:PA X [a] ta) (hs:starEach [a] X.env=[(false,eval a X.env)]:=by rfl):PI X tg (.Call (.Name "range" p) [a] [] pos) (Pz ta):=by
 intro pins s σ H R I h
 refine Call_ (vg I hg hm boot_range (PyProof.Rows.callWith_type1 (thn (ha pos pins s σ H _ I h) fun us s1 ⟨vs,H1,I1,r1,q1⟩=>?_) hs rfl))
 obtain ⟨j,e,q1,q2,q⟩:=q1
 subst e
 cases r1 with
 | cons r rr =>
  cases rr
  obtain ⟨t,rfl⟩:=r
  exact call_range_1 (Dm I1 (by omega) (by omega) q1 q2 (by simpa using q))
def QK (wi:TI) (g:TG) (tb:TS):TS:=fun D σ H=>wi σ H fun J H1=>∃ W:Nat→Nat→St→Hp→Prop,(∃ m,W 0 m σ H1)∧∀ i m σ H,W i m σ H →
 (J.stop i H∧D.nx σ H)∨(J.go i H∧∃ N:St→Hp→Prop,(∀ σ' H',N σ' H'→∃ m',m' < m∧W (i+1) m' σ' H')∧∀ x H',J.yld i H x H'→g x σ H' fun σ2 H2=>tb { D with nx:=N,ct:=N,bk:=D.nx } σ2 H2)
def mR (fp:List Addr) (h:Heap):List (Addr × Obj):=fp.filterMap fun b=>(h.get? b).map fun o=>(b,o)
theorem dI {fp:List Addr} {h:Heap} {b:Addr} {o:Obj} (hb:b∈fp) (e:h.get? b=some o):(b,o)∈mR fp h:=List.mem_filterMap.mpr ⟨b,hb,by rw [e]; rfl⟩
theorem yV {fp:List Addr} {h:Heap} {p:Addr × Obj} (hp:p∈mR fp h):p.1∈fp∧h.get? p.1=some p.2:=by
 obtain ⟨b,hb,e⟩:=List.mem_filterMap.mp hp
 cases q:h.get? b with
 | none=>rw [q] at e; cases e
 | some o =>
  rw [q] at e
  have e':(b,o)=p:=Option.some.inj e
  subst e'
  exact ⟨hb,q⟩
theorem Inv.pinned {pins:List (Addr × Obj)} {σ:St} {H:Hp} {s:Shared} {fp:List Addr} (I:Inv X pins σ H s) (hf:∀ b∈fp,BX X pins H b) (ho:∀ b∈fp,∃ o,s.heap.get? b=some o∧∀ v,o.data≠.cell v):Inv X (pins++mR fp s.heap) σ H s :=
 I.pins_of fun p hp=>(List.mem_append.mp hp).elim (fun z=>I.pin p (List.mem_append_right _ z)) fun z=>by
  obtain ⟨hb,e⟩:=yV z
  obtain ⟨f0,f1,f2,_⟩:=hf p.1 hb
  obtain ⟨o,e',d⟩:=ho p.1 hb
  rw [e] at e'; cases e'
  exact ⟨e,f0,f1,f2,d⟩
theorem Inv.unpinned {pins pl:List (Addr × Obj)} {σ:St} {H:Hp} {s:Shared} (I:Inv X (pins++pl) σ H s):Inv X pins σ H s:=I.pins_of fun p hp=>I.pin p (List.mem_append_right _ (List.mem_append_left _ hp))
theorem dB {iter:Expr} {body:List Stmt} {wi:TI} {g:TG} {tb:TS} {pos:Pos} (hp:PassesOwn (model X.prog X.w) X.A X.env X.xe) (hc:X.calm=true) (hi:PI X tg iter wi) (hg:PG X tg g) (hb:PSs X body tb)
  (hs:∀ x,foldedSetIterable iter X.env x=pure x:=by intro _; rfl):PS X (.For tg iter body [] pos) (QK wi g tb):=by
 intro pins s σ H D I h
 refine wpAny_For (thn (hi pins s σ H _ I h) fun v s1 h1=>thn h1 fun itv s2 h2=>?_) hs
 obtain ⟨it,fp,tn,J,H2,e,I2,T,st2,f2,W,⟨m0,w0⟩,turn⟩:=h2
 subst e
 have stat:∀ {H':Hp},(∀ b∈fp,H' b=none)→∀ b∈fp,BX X pins H' b:=fun hn b hb=>⟨hn b hb,(f2 b hb).2⟩
 refine codeAny_forLoop_any (fun n s'=>∃ i σ' H',Inv X pins σ' H' s'∧tn i s'.heap∧(∀ b∈fp,H' b=none)∧W i n σ' H') ?_ m0 ⟨0,σ,H2,I2,st2,fun b hb=>(f2 b hb).1,w0⟩
 rintro n s3 ⟨i,σ3,H3,I3,st3,fr3,w3⟩
 rcases turn i n σ3 H3 w3 with ⟨stop,qn⟩ | ⟨go,N,hN,step⟩
 ·refine wpAny_passesOwn hp (thn (T.done X rfl rfl rfl hc i pins s3 σ3 H3 X.xe I3 (stat fr3) st3 stop) fun r s4 ⟨hr,I4⟩=>?_)
  subst hr
  exact wpAny_execs_nil ⟨σ3,H3,I4,qn⟩
 ·refine wpAny_passesOwn hp (thn (T.item X rfl rfl rfl hc i pins s3 σ3 H3 X.xe I3 (stat fr3) st3 go) fun r s4 ⟨u,hr,h4⟩=>?_)
  subst hr
  refine wpAny_passesOwn hp (thn h4 fun _ s5 ⟨x,H5,I5,r5,y5,st5,fr5⟩=>?_)
  have I5':=I5.pinned (stat fr5) (T.obj _ _ st5)
  refine wpAny_passesOwn hp (thn (hg _ s5 σ3 H5 x u _ I5' r5 (step x H5 y5)) fun _ s6 ⟨σ6,H6,I6,q6⟩=>?_)
  refine wpAny_passesOwn hp (thn (hb _ s6 σ6 H6 _ I6 q6) fun f s7 q7=>?_)
  have again:∀ {σ7:St} {H7:Hp},Inv X (pins++mR fp s5.heap) σ7 H7 s7→N σ7 H7→∃ m,m < n∧∃ i σ' H',Inv X pins σ' H' s7∧tn i s7.heap∧(∀ b∈fp,H' b=none)∧W i m σ' H':=fun {σ7 H7} I7 n7=>by
   obtain ⟨m',hm,w7⟩:=hN σ7 H7 n7
   refine ⟨m',hm,i+1,σ7,H7,I7.unpinned,T.keep _ _ _ st5 fun b hb o e=>(I7.pin (b,o) (List.mem_append_right _ (List.mem_append_right _ (dI hb e)))).1,fun b hb=>?_,w7⟩
   obtain ⟨o,e,d⟩:=T.obj _ _ st5 b hb
   exact (I7.pin (b,o) (List.mem_append_right _ (List.mem_append_right _ (dI hb e)))).2.1
  cases f with
  | next=>obtain ⟨σ7,H7,I7,n7⟩:=q7; exact again I7 n7
  | cont=>obtain ⟨σ7,H7,I7,n7⟩:=q7; exact again I7 n7
  | brk=>obtain ⟨σ7,H7,I7,q7⟩:=q7; exact ⟨σ7,H7,I7.unpinned,q7⟩
  | ret v=>obtain ⟨x7,σ7,H7,I7,r7,q7⟩:=q7; exact ⟨x7,σ7,H7,I7.unpinned,r7,q7⟩
end
theorem jV {K:PySem.W.Frag} {a:Addr} {xs:List V} {g:TG} {tb:TS} {D:Ends} {σ:St} {H:Hp} (Pv:Nat→St→Hp→Prop) (h0:Pv 0 σ H) (hl:∀ i σ H,i≤xs.length→Pv i σ H→SqL K H a xs)
  (hs:∀ i x σ H,xs[i]?=some x→Pv i σ H→g x σ H fun σ2 H2=>tb { D with nx:=Pv (i+1),ct:=Pv (i+1),bk:=D.nx } σ2 H2) (hd:∀ σ H,Pv xs.length σ H→D.nx σ H) :
  ∃ W:Nat→Nat→St→Hp→Prop,(∃ m,W 0 m σ H)∧∀ i m σ H,W i m σ H →
   ((Itl K a).stop i H∧D.nx σ H)∨((Itl K a).go i H∧∃ N:St→Hp→Prop,(∀ σ' H',N σ' H'→∃ m',m' < m∧W (i+1) m' σ' H')∧∀ x H',(Itl K a).yld i H x H'→g x σ H' fun σ2 H2=>tb { D with nx:=N,ct:=N,bk:=D.nx } σ2 H2):=by
 refine ⟨fun i m σ H=>m=xs.length - i∧i≤xs.length∧Pv i σ H,⟨xs.length,by simp,Nat.zero_le _,h0⟩,?_⟩
 rintro i m σ H ⟨rfl,hi,p⟩
 have q:=hl i σ H hi p
 by_cases hlt:i < xs.length
 ·refine .inr ⟨⟨xs,xs[i],q,by simp [hlt]⟩,Pv (i+1),fun σ' H' p'=>⟨xs.length - (i+1),by omega,rfl,hlt,p'⟩,fun x H' y=>?_⟩
  obtain ⟨e,y⟩:=y
  subst e
  exact hs i x σ _ (y xs q) p
 ·have e:i=xs.length:=by omega
  subst e
  exact .inl ⟨⟨xs,q,Nat.le_refl _⟩,hd σ H p⟩
theorem jA {K:PySem.W.Frag} {a:Addr} {xs:List V} {g:TG} {tb:TS} {D:Ends} {σ:St} {H:Hp} (Pv:Nat→St→Hp→Prop) (h0:Pv 0 σ H) (hl:∀ i σ H,i≤xs.length→Pv i σ H→SqT K H a xs)
  (hs:∀ i x σ H,xs[i]?=some x→Pv i σ H→g x σ H fun σ2 H2=>tb { D with nx:=Pv (i+1),ct:=Pv (i+1),bk:=D.nx } σ2 H2) (hd:∀ σ H,Pv xs.length σ H→D.nx σ H) :
  ∃ W:Nat→Nat→St→Hp→Prop,(∃ m,W 0 m σ H)∧∀ i m σ H,W i m σ H →
   ((Itt K a).stop i H∧D.nx σ H)∨((Itt K a).go i H∧∃ N:St→Hp→Prop,(∀ σ' H',N σ' H'→∃ m',m' < m∧W (i+1) m' σ' H')∧∀ x H',(Itt K a).yld i H x H'→g x σ H' fun σ2 H2=>tb { D with nx:=N,ct:=N,bk:=D.nx } σ2 H2):=by
 refine ⟨fun i m σ H=>m=xs.length - i∧i≤xs.length∧Pv i σ H,⟨xs.length,by simp,Nat.zero_le _,h0⟩,?_⟩
 rintro i m σ H ⟨rfl,hi,p⟩
 have q:=hl i σ H hi p
 by_cases hlt:i < xs.length
 ·refine .inr ⟨⟨xs,xs[i],q,by simp [hlt]⟩,Pv (i+1),fun σ' H' p'=>⟨xs.length - (i+1),by omega,rfl,hlt,p'⟩,fun x H' y=>?_⟩
  obtain ⟨e,y⟩:=y
  subst e
  exact hs i x σ _ (y xs q) p
 ·have e:i=xs.length:=by omega
  subst e
  exact .inl ⟨⟨xs,q,Nat.le_refl _⟩,hd σ H p⟩
theorem eE {lo:Int} {n:Nat} {g:TG} {tb:TS} {D:Ends} {σ:St} {H:Hp} (Pv:Nat→St→Hp→Prop) (h0:Pv 0 σ H)
  (hs:∀ i σ H,i < n→Pv i σ H→g (.int (lo+i)) σ H fun σ2 H2=>tb { D with nx:=Pv (i+1),ct:=Pv (i+1),bk:=D.nx } σ2 H2) (hd:∀ σ H,Pv n σ H→D.nx σ H) :
  ∃ W:Nat→Nat→St→Hp→Prop,(∃ m,W 0 m σ H)∧∀ i m σ H,W i m σ H →
   ((Itr lo n).stop i H∧D.nx σ H)∨((Itr lo n).go i H∧∃ N:St→Hp→Prop,(∀ σ' H',N σ' H'→∃ m',m' < m∧W (i+1) m' σ' H')∧∀ x H',(Itr lo n).yld i H x H'→g x σ H' fun σ2 H2=>tb { D with nx:=N,ct:=N,bk:=D.nx } σ2 H2):=by
 refine ⟨fun i m σ H=>m=n - i∧i≤n∧Pv i σ H,⟨n,by simp,Nat.zero_le _,h0⟩,?_⟩
 rintro i m σ H ⟨rfl,hi,p⟩
 by_cases hlt:i < n
 ·refine .inr ⟨hlt,Pv (i+1),fun σ' H' p'=>⟨n - (i+1),by omega,rfl,hlt,p'⟩,fun x H' y=>?_⟩
  obtain ⟨e,y⟩:=y
  subst e y
  exact hs i σ _ hlt p
 ·have e:i=n:=by omega
  subst e
  exact .inl ⟨Nat.le_refl _,hd σ H p⟩
end L2
namespace L2
open PySem PySem.Spec PyProof.Rows
abbrev R2:=V→V→Hp→VK→Prop
def OpR (X:Cx) (f:Value→Value→Sem Value) (r:R2):Prop :=
 ∀ (pins:List (Addr × Obj)) (s:Shared) (σ:St) (H:Hp) (x y:V) (v u:Value) (Q:VK),Inv X pins σ H s→RelV x v→RelV y u→r x y H Q →
  wpAny (model X.prog X.w) X.A (f v u) (EP X pins σ Q) X.xe s
def fQ (X:Cx) (f:Value) (r:List V→Hp→VK→Prop):Prop :=
 ∀ (pins:List (Addr × Obj)) (s:Shared) (σ:St) (H:Hp) (xs:List V) (us:List Value) (Q:VK),Inv X pins σ H s→Vals xs us→r xs H Q →
  wpAny (model X.prog X.w) X.A (call f us) (EP X pins σ Q) X.xe s
def tOp (r:R2) (ta tb:TE):TE:=fun σ H Q=>ta σ H fun x H1=>tb σ H1 fun y H2=>r x y H2 Q
def rI (C:Int→Int→Prop) (g:Int→Int→V):R2:=fun x y H Q=>∃ i j,x=.int i∧y=.int j∧C i j∧Q (g i j) H
def rI0 (g:Int→Int→V):R2:=fun x y H Q=>∃ i j,x=.int i∧y=.int j∧Q (g i j) H
section
variable {X:Cx} {a b c:Expr} {ta tb tc:TE} {pos:Pos}
theorem N6 (ha:PE X a ta) (hb:PE X b tb) {pins:List (Addr × Obj)} {s:Shared} {σ:St} {H:Hp} {R:V→V→Hp→Prop} (I:Inv X pins σ H s)
  (h:ta σ H fun x H1=>tb σ H1 fun y H2=>R x y H2) {Q:Value→Shared→Prop} {f:Value→Value→Sem Value}
  (hf:∀ v u s2 x y H2,Inv X pins σ H2 s2→RelV x v→RelV y u→R x y H2→wpAny (model X.prog X.w) X.A (f v u) Q X.xe s2) :
  wpAny (model X.prog X.w) X.A (eval a X.env) (fun v s₁=>wpAny (model X.prog X.w) X.A (eval b X.env) (fun u s₂=>wpAny (model X.prog X.w) X.A (f v u) Q X.xe s₂) X.xe s₁) X.xe s:=by
 refine thn (ha pins s σ H _ I h) fun v s1 ⟨x,H1,I1,r1,q1⟩=>?_
 refine thn (hb pins s1 σ H1 _ I1 q1) fun u s2 ⟨y,H2,I2,r2,q2⟩=>?_
 exact hf v u s2 x y H2 I2 r1 r2 q2
theorem aX {op:Operator} {r:R2} (ho:OpR X (binaryOp op) r) (ha:PE X a ta) (hb:PE X b tb):PE X (.BinOp a op b pos) (tOp r ta tb):=by
 intro pins s σ H Q I h
 exact wpAny_BinOp (N6 ha hb I h fun v u s2 x y H2 I2 rx ry q=>ho pins s2 σ H2 x y v u Q I2 rx ry q)
theorem opI {f:Value→Value→Sem Value} {C:Int→Int→Prop} {g:Int→Int→Int}
  (rule:∀ (i j:Int) (t u:Tok) (s:Shared) (Q:Value→Shared→Prop) (E:Value→Shared→Prop),C i j→Q (.int (g i j) s.toks) { s with toks:=s.toks+1 }→wpAny (model X.prog X.w) X.A (f (.int i t) (.int j u)) Q E s) :
  OpR X f (rI C fun i j=>.int (g i j)):=by
 intro pins s σ H x y v u Q I rx ry h
 obtain ⟨i,j,rfl,rfl,hc,q⟩:=h
 obtain ⟨t,rfl⟩:=rx
 obtain ⟨t',rfl⟩:=ry
 exact rule i j t t' s _ _ hc ⟨.int (g i j),H,I.tok _,⟨_,rfl⟩,q⟩
theorem PN {f:Value→Value→Sem Value} {g:Int→Int→Int}
  (rule:∀ (i j:Int) (t u:Tok) (s:Shared) (Q:Value→Shared→Prop) (E:Value→Shared→Prop),Q (.int (g i j) s.toks) { s with toks:=s.toks+1 }→wpAny (model X.prog X.w) X.A (f (.int i t) (.int j u)) Q E s) :
  OpR X f (rI0 fun i j=>.int (g i j)):=by
 intro pins s σ H x y v u Q I rx ry h
 obtain ⟨i,j,rfl,rfl,q⟩:=h
 obtain ⟨t,rfl⟩:=rx
 obtain ⟨t',rfl⟩:=ry
 exact rule i j t t' s _ _ ⟨.int (g i j),H,I.tok _,⟨_,rfl⟩,q⟩
theorem NQ {f:Value→Value→Sem Value} {g:Int→Int→Bool}
  (rule:∀ (i j:Int) (t u:Tok) (s:Shared) (Q:Value→Shared→Prop) (E:Value→Shared→Prop),Q (.bool (g i j)) s→wpAny (model X.prog X.w) X.A (f (.int i t) (.int j u)) Q E s) :
  OpR X f (rI0 fun i j=>.bl (g i j)):=by
 intro pins s σ H x y v u Q I rx ry h
 obtain ⟨i,j,rfl,rfl,q⟩:=h
 obtain ⟨t,rfl⟩:=rx
 obtain ⟨t',rfl⟩:=ry
 exact rule i j t t' s _ _ ⟨.bl (g i j),H,I,rfl,q⟩
def Rk (i j:Int):Prop:=0≤j∧j≤1000000∧i.natAbs < 2 ^ 64
def Oq (i j:Int):Prop:=(-(2 ^ 64) < i∧i < 2 ^ 64)∨(-(2 ^ 64) < j∧j < 2 ^ 64)
theorem Oq.ok {i j:Int} (h:Oq i j):IntMulOk i j:=by
 rcases h with ⟨h1,h2⟩ | ⟨h1,h2⟩
 ·exact .of_left (intBits_le_64 h1 h2)
 ·exact .of_right (intBits_le_64 h1 h2)
theorem dj:OpR X (binaryOp .Add) (rI0 fun i j=>.int (i+j)):=PN fun _ _ _ _ _ _ _ q=>add_int q
theorem uX:OpR X (binaryOp .Sub) (rI0 fun i j=>.int (i - j)):=PN fun _ _ _ _ _ _ _ q=>sub_int q
theorem uI:OpR X (binaryOp .Mult) (rI Oq fun i j=>.int (i * j)):=opI fun _ _ _ _ _ _ _ hc q=>mul_int q hc.ok
theorem fU:OpR X (binaryOp .Mod) (rI (fun _ j=>0 < j) fun i j=>.int (i % j)):=opI fun i j _ _ _ _ _ hc q=>by
 have h1:(0:Int) < j:=hc
 exact mod_int' (by omega) (by rw [Int.fmod_eq_emod_of_nonneg i (by omega)]; exact q)
theorem zf:OpR X (binaryOp .Pow) (rI Rk fun i j=>.int (i ^ j.toNat)):=opI fun _ _ _ _ _ _ _ hc q=>pow_int_small hc.1 hc.2.1 hc.2.2 q
end
def Ql:V→V→Bool
 | .non,.non=>true | .non,.int _=>true | .int _,.non=>true | .non,.bl _=>true | .bl _,.non=>true | .non,.str _=>true | .str _,.non=>true
 | .int _,.int _=>true | .bl _,.bl _=>true | .str _,.str _=>true | .byt _,.byt _=>true
 | .int _,.str _=>true | .str _,.int _=>true | .bl _,.str _=>true | .str _,.bl _=>true
 | _,_=>false
def rEq:R2:=fun x y H Q=>Ql x y=true∧Q (.bl (decide (x=y))) H
def rNe:R2:=fun x y H Q=>Ql x y=true∧Q (.bl (!decide (x=y))) H
theorem Cp {i j:Int}:decide (V.int i=V.int j)=(i == j):=by
 rw [Bool.eq_iff_iff]
 simp
theorem G3 {i j:Bool}:decide (V.bl i=V.bl j)=(i == j):=by
 rw [Bool.eq_iff_iff]
 simp
theorem Aj {i j:Str}:decide (V.str i=V.str j)=(i == j):=by
 rw [Bool.eq_iff_iff]
 simp
theorem zP {i j:Array UInt8}:decide (V.byt i=V.byt j)=(i.toList == j.toList):=by
 rw [Bool.eq_iff_iff]
 cases i
 cases j
 simp
section
variable {X:Cx} {a b c:Expr} {ta tb tc:TE} {pos:Pos}
theorem bD {pins:List (Addr × Obj)} {σ:St} {H:Hp} {s:Shared} {Q:VK} {k k':Bool} (I:Inv X pins σ H s) (q:Q (.bl k) H) (e:k=k'):EP X pins σ Q (.bool k') s:=by
 subst e
 exact ⟨.bl k,H,I,rfl,q⟩
theorem iT:OpR X (compareOp .Eq) rEq:=by
 intro pins s σ H x y v u Q I rx ry h
 obtain ⟨hs,q⟩:=h
 cases x with
 | non =>
  cases rx
  cases y with
  | non=>cases ry; exact PySem.EqNone.eq_none_none (bD I q (by simp))
  | bl j=>cases ry; exact PySem.EqNone.eq_none_bool (bD I q (by simp))
  | int j=>obtain ⟨t',rfl⟩:=ry; exact PySem.EqNone.eq_none_int (bD I q (by simp))
  | str j=>obtain ⟨t',rfl⟩:=ry; exact PySem.EqNone.eq_none_str (bD I q (by simp))
  | _=>exact absurd (show false=true from hs) Bool.false_ne_true
 | bl i =>
  cases rx
  cases y with
  | non=>cases ry; exact PySem.EqNone.eq_bool_none (bD I q (by simp))
  | bl j=>cases ry; exact eq_bool (bD I q G3)
  | str j=>obtain ⟨t',rfl⟩:=ry; exact PySem.EqMixed.eq_bool_str (bD I q (by simp))
  | _=>exact absurd (show false=true from hs) Bool.false_ne_true
 | int i =>
  obtain ⟨t,rfl⟩:=rx
  cases y with
  | non=>cases ry; exact PySem.EqNone.eq_int_none (bD I q (by simp))
  | int j=>obtain ⟨t',rfl⟩:=ry; exact eq_int (bD I q Cp)
  | str j=>obtain ⟨t',rfl⟩:=ry; exact PySem.EqMixed.eq_int_str (bD I q (by simp))
  | _=>exact absurd (show false=true from hs) Bool.false_ne_true
 | str i =>
  obtain ⟨t,rfl⟩:=rx
  cases y with
  | non=>cases ry; exact PySem.EqNone.eq_str_none (bD I q (by simp))
  | bl j=>cases ry; exact PySem.EqMixed.eq_str_bool (bD I q (by simp))
  | int j=>obtain ⟨t',rfl⟩:=ry; exact PySem.EqMixed.eq_str_int (bD I q (by simp))
  | str j=>obtain ⟨t',rfl⟩:=ry; exact eq_str (bD I q Aj)
  | _=>exact absurd (show false=true from hs) Bool.false_ne_true
 | byt i =>
  obtain ⟨t,rfl⟩:=rx
  cases y with
  | byt j=>obtain ⟨t',rfl⟩:=ry; exact PySem.W.eq_bytes (bD I q zP)
  | _=>exact absurd (show false=true from hs) Bool.false_ne_true
 | _=>cases y <;> exact absurd (show false=true from hs) Bool.false_ne_true
theorem MF:OpR X (compareOp .NotEq) rNe:=by
 intro pins s σ H x y v u Q I rx ry h
 obtain ⟨hs,q⟩:=h
 cases x with
 | non =>
  cases rx
  cases y with
  | non=>cases ry; exact PySem.EqNone.ne_none_none (bD I q (by simp))
  | bl j=>cases ry; exact PySem.EqNone.ne_none_bool (bD I q (by simp))
  | int j=>obtain ⟨t',rfl⟩:=ry; exact PySem.EqNone.ne_none_int (bD I q (by simp))
  | str j=>obtain ⟨t',rfl⟩:=ry; exact PySem.EqNone.ne_none_str (bD I q (by simp))
  | _=>exact absurd (show false=true from hs) Bool.false_ne_true
 | bl i =>
  cases rx
  cases y with
  | non=>cases ry; exact PySem.EqNone.ne_bool_none (bD I q (by simp))
  | bl j=>cases ry; exact ne_bool (bD I q (congrArg not G3))
  | str j=>obtain ⟨t',rfl⟩:=ry; exact PySem.EqMixed.ne_bool_str (bD I q (by simp))
  | _=>exact absurd (show false=true from hs) Bool.false_ne_true
 | int i =>
  obtain ⟨t,rfl⟩:=rx
  cases y with
  | non=>cases ry; exact PySem.EqNone.ne_int_none (bD I q (by simp))
  | int j=>obtain ⟨t',rfl⟩:=ry; exact ne_int (bD I q (congrArg not Cp))
  | str j=>obtain ⟨t',rfl⟩:=ry; exact PySem.EqMixed.ne_int_str (bD I q (by simp))
  | _=>exact absurd (show false=true from hs) Bool.false_ne_true
 | str i =>
  obtain ⟨t,rfl⟩:=rx
  cases y with
  | non=>cases ry; exact PySem.EqNone.ne_str_none (bD I q (by simp))
  | bl j=>cases ry; exact PySem.EqMixed.ne_str_bool (bD I q (by simp))
  | int j=>obtain ⟨t',rfl⟩:=ry; exact PySem.EqMixed.ne_str_int (bD I q (by simp))
  | str j=>obtain ⟨t',rfl⟩:=ry; exact ne_str (bD I q (congrArg not Aj))
  | _=>exact absurd (show false=true from hs) Bool.false_ne_true
 | byt i =>
  obtain ⟨t,rfl⟩:=rx
  cases y with
  | byt j=>obtain ⟨t',rfl⟩:=ry; exact PySem.W.ne_bytes (bD I q (congrArg not zP))
  | _=>exact absurd (show false=true from hs) Bool.false_ne_true
 | _=>cases y <;> exact absurd (show false=true from hs) Bool.false_ne_true
theorem Pk:OpR X (compareOp .Lt) (rI0 fun i j=>.bl (decide (i < j))):=NQ fun _ _ _ _ _ _ _ q=>lt_int q
theorem Mq:OpR X (compareOp .Gt) (rI0 fun i j=>.bl (decide (j < i))):=NQ fun _ _ _ _ _ _ _ q=>gt_int q
theorem IV:OpR X (compareOp .GtE) (rI0 fun i j=>.bl (decide (j≤i))):=NQ fun _ _ _ _ _ _ _ q=>ge_int q
theorem qM:OpR X (compareOp .In) (fun x y H Q=>∃ i j,x=.str i∧y=.str j∧Q (.bl (!(Builtin.Str.occurrences j i 0 j.length 1).isEmpty)) H):=by
 intro pins s σ H x y v u Q I rx ry h
 obtain ⟨i,j,rfl,rfl,q⟩:=h
 obtain ⟨t,rfl⟩:=rx
 obtain ⟨t',rfl⟩:=ry
 exact in_str (bD I q rfl)
theorem Aq:OpR X (compareOp .Is) (fun x y H Q=>y=.non∧Q (.bl (decide (x=.non))) H):=by
 intro pins s σ H x y v u Q I rx ry h
 obtain ⟨rfl,q⟩:=h
 cases ry
 refine is_none_gen (bD I q ?_)
 cases x <;> first
  | (cases rx; rfl)
  | (obtain ⟨t,rfl⟩:=rx; rfl)
theorem bF (b:Expr) {op:CmpOp} (h:op≠.In:=by decide) (h2:op≠.NotIn:=by decide):behindInMarks op b=false:=by
 have e1:(op == CmpOp.In)=false:=by cases op <;> first | rfl | exact absurd rfl h
 have e2:(op == CmpOp.NotIn)=false:=by cases op <;> first | rfl | exact absurd rfl h2
 cases b <;> simp [behindInMarks,e1,e2]
theorem rW {op:CmpOp} {r:R2} (ho:OpR X (compareOp op) r) (ha:PE X a ta) (hb:PE X b tb) (hm:behindInMarks op b=false):PE X (.Compare a [op] [b] pos) (tOp r ta tb):=by
 intro pins s σ H Q I h
 exact wpAny_Compare1 (N6 ha hb I h fun v u s2 x y H2 I2 rx ry q=>ho pins s2 σ H2 x y v u Q I2 rx ry q) hm
def zy (t:TE):TT:=fun σ H Q=>t σ H fun x H'=>∃ k,x=.bl k∧Q k H'
theorem aZ {op:CmpOp} {r:R2} (ho:OpR X (compareOp op) r) (ha:PE X a ta) (hb:PE X b tb) (hm:behindInMarks op b=false):PT X (.Compare a [op] [b] pos) (zy (tOp r ta tb)):=by
 intro pins s σ H Q I h
 refine wpAny_isTrue_Compare1 (thn (ha pins s σ H _ I h) fun v s1 ⟨x,H1,I1,r1,q1⟩=>thn (hb pins s1 σ H1 _ I1 q1) fun u s2 ⟨y,H2,I2,r2,q2⟩ =>
  thn (ho pins s2 σ H2 x y v u _ I2 r1 r2 q2) fun c s3 ⟨z,H3,I3,r3,k,e,q3⟩=>?_) hm
 subst e
 cases r3
 exact wpAny_truthy_bool ⟨H3,I3,q3⟩
def rJ (r r':R2) (ta tb tc:TE):TE:=fun σ H Q=>ta σ H fun x H1=>tb σ H1 fun y H2=>r x y H2 fun z H3=>∃ k,z=.bl k ∧
 (if k=true then tc σ H3 fun w' H4=>r' y w' H4 Q else Q (.bl false) H3)
theorem pL {op op':CmpOp} {r r':R2} (ho:OpR X (compareOp op) r) (ho':OpR X (compareOp op') r') (ha:PE X a ta) (hb:PE X b tb) (hc:PE X c tc)
  (hm:lastMarks [op,op'] [b,c]=false:=by with_unfolding_all rfl):PE X (.Compare a [op,op'] [b,c] pos) (rJ r r' ta tb tc):=by
 intro pins s σ H Q I h
 refine Compare_chain (thn (ha pins s σ H _ I h) fun v s1 ⟨x,H1,I1,r1,q1⟩=>chain_link (thn (hb pins s1 σ H1 _ I1 q1) fun u s2 ⟨y,H2,I2,r2,q2⟩ =>
  thn (ho pins s2 σ H2 x y v u _ I2 r1 r2 q2) fun d s3 ⟨z,H3,I3,r3,k,e,q3⟩=>?_)) hm
 subst e
 cases r3
 refine wpAny_truthy_bool ?_
 cases k with
 | false=>exact ite_ff ⟨.bl false,H3,I3,rfl,q3⟩
 | true=>exact ite_tt (chain_last (thn (hc pins s3 σ H3 _ I3 q3) fun w' s4 ⟨z',H4,I4,r4,q4⟩=>ho' pins s4 σ H4 y z' u w' Q I4 r2 r4 q4))
theorem nM:(sizeLine:Nat) < 2 ^ 63:=by rw [sizeLine_eq]; decide
theorem bM:OpR X (binaryOp .Add) (fun x y H Q=>∃ i j,x=.str i∧y=.str j∧i.length+j.length≤sizeLine∧Q (.str (i++j)) H):=by
 intro pins s σ H x y v u Q I rx ry h
 obtain ⟨i,j,rfl,rfl,hz,q⟩:=h
 obtain ⟨t,rfl⟩:=rx
 obtain ⟨t',rfl⟩:=ry
 exact add_str (fun t' tk=>⟨.str (i++j),H,I.tok _,⟨_,rfl⟩,q⟩) hz
theorem vals1 {x:V} {us:List Value} (r:Vals [x] us):∃ u,us=[u]∧RelV x u:=by
 cases r with
 | cons r1 r2=>cases r2; exact ⟨_,rfl,r1⟩
theorem vals2 {x y:V} {us:List Value} (r:Vals [x,y] us):∃ u w',us=[u,w']∧RelV x u∧RelV y w':=by
 cases r with
 | cons r1 r2 =>
  cases r2 with
  | cons r3 r4=>cases r4; exact ⟨_,_,rfl,r1,r3⟩
theorem yq (hc:X.calm=true):fQ X (.builtin "min") (fun xs H Q=>∃ i j,xs=[.int i,.int j]∧Q (.int (if j < i then j else i)) H):=by
 intro pins s σ H xs us Q I r h
 obtain ⟨i,j,rfl,q⟩:=h
 obtain ⟨u,w',rfl,⟨t,rfl⟩,⟨t',rfl⟩⟩:=vals2 r
 refine min_two_ints (I.ok.hd hc) fun h' tk k=>⟨_,H,I.kept k,?_,q⟩
 by_cases hj:j < i
 ·rw [if_pos hj,if_pos hj]; exact ⟨_,rfl⟩
 ·rw [if_neg hj,if_neg hj]; exact ⟨_,rfl⟩
theorem lH:fQ X (.type "int") (fun xs H Q=>(∃ i,xs=[.int i]∧Q (.int i) H)∨∃ k,xs=[.bl k]∧Q (.int (if k then 1 else 0)) H):=by
 intro pins s σ H xs us Q I r h
 rcases h with ⟨i,rfl,q⟩ | ⟨k,rfl,q⟩
 ·obtain ⟨u,rfl,t,rfl⟩:=vals1 r
  exact call_int_int ⟨.int i,H,I,⟨_,rfl⟩,q⟩
 ·obtain ⟨u,rfl,r1⟩:=vals1 r
  cases r1
  exact call_int_bool ⟨.int (if k then 1 else 0),H,I.tok _,⟨_,rfl⟩,q⟩
end
end L2
namespace L2
open PySem PySem.Spec PyProof.Rows
structure Pg (h:Heap) (x dx C:Addr) (mA:Str→Option Value):Prop where
 obj:h.get? x=some (PySem.W.instObj C dx)
 ns:h.Ns1 dx mA
 ne:dx≠x
theorem yN {h:Heap} {dx:Addr} {mA:Str→Option Value} (n:h.Ns1 dx mA):∃ od,h.get? dx=some od∧∀ name,PySem.W.lookIn name od=some (mA name):=by
 obtain ⟨o,es,ep,ho,hd,hk,_,hm⟩:=n
 refine ⟨o,ho,fun name=>?_⟩
 have e:=hm name
 unfold nsFind findBy at e
 rw [← Array.find?_toList] at e
 unfold PySem.W.lookIn
 rw [hd]
 dsimp only
 split
 ·rename_i y q
  rw [q] at e
  exact congrArg some e
 ·rename_i q
  rw [q] at e
  have a:es.toList.any (·.refKey)=false:=by
   rw [List.any_eq_false]
   intro y hy
   obtain ⟨z,t,hkey⟩:=hk y (Array.mem_toList_iff.mp hy)
   simp [DictEntry.refKey,hkey]
  have a':¬ es.toList.any (·.refKey)=true:=by rw [a]; exact Bool.false_ne_true
  rw [if_neg a']
  exact congrArg some e
theorem Pg.look {h:Heap} {x dx C:Addr} {mA:Str→Option Value} (I:Pg h x dx C mA):∃ od,PySem.W.InstAt h x (PySem.W.instObj C dx) C (some od)∧∀ name,PySem.W.lookIn name od=some (mA name) :=
 let ⟨od,ho,hl⟩:=yN I.ns
 ⟨od,⟨I.obj,rfl,rfl,ho⟩,hl⟩
section
variable {prog:Program} {w:World} {A:Around} {E:Value→Shared→Prop} {s:Shared} {K:PySem.W.Frag} {x dx C f:Addr} {mA:Str→Option Value} {name:Str} {v:Value}
end
theorem wZ.some_of {v:V} {o:Option Value} (r:wZ (some v) o):∃ u,o=some u∧RelV v u:=by
 cases o with
 | none=>exact (show False from r).elim
 | some u=>exact ⟨u,rfl,r⟩
section
variable {P:Program} {w:World} {H H':Hp} {h h':Heap} {a C dx:Addr} {fs fs':List (Str × V)}
theorem Hz (hok:HOk P w H h) (e:H a=some (.ins C dx fs)):∃ mA,Pg h a dx C mA∧(∀ f,wZ (fs.lookup f) (mA f))∧PySem.Within mA (fs.map (·.1))∧fs.length≤1000∧H dx=some (.own a):=by
 obtain ⟨d,z,ne,ob,mA,n,r,q⟩:=(show cF P w H h a (.ins C dx fs) from hok a _ e)
 exact ⟨mA,⟨ob,n,ne⟩,r,q,z,d⟩
end
structure Cls (K:PySem.W.Frag) (C:Addr):Prop where
 pg:PySem.W.plainGet K C Str.empty=true
 hd:PySem.W.hasDictIn K C=true
 po:PySem.W.plainOver K C=true
 sa:PySem.W.findIn K (.ref C) "__setattr__" = some (some (.builtin "object.__setattr__"))
theorem Cls.get {K:PySem.W.Frag} {C:Addr} (c:Cls K C) (f:Str):PySem.W.plainGet K C f=true:=c.pg
structure Con (K:PySem.W.Frag) (C:Addr) (f:Str) (v:V) (u:Value):Prop where
 at_:PySem.W.findIn K (.ref C) f=some (some u)
 rel:RelV v u
 get:PySem.W.specialIn K u "__get__" = some none
 cp:PySem.W.copiedNames.contains f=false
structure Meth (K:PySem.W.Frag) (C:Addr) (m:Str) (f:Addr):Prop where
 at_:PySem.W.findIn K (.ref C) m=some (some (.ref f))
 fn:PySem.W.isFn K (.ref f)=true
 kp:PySem.W.keepIn K (.ref f)=true
section
variable {X:Cx} {pins:List (Addr × Obj)} {σ:St} {H:Hp} {s:Shared} {a C dx:Addr} {fs:List (Str × V)} {f:Str} {v:V} {A:Around} {E:Value→Shared→Prop}
end
section
variable {X:Cx} {o e value:Expr} {f:Str} {pos pos' tpos:Pos} {ta tv:TE}
end
section
variable {X:Cx} {pins:List (Addr × Obj)} {σ:St} {H:Hp} {s:Shared} {A:Around} {E:Value→Shared→Prop} {Q:Value→Shared→Prop} {c:Value} {b:Bool}
inductive xg (K:PySem.W.Frag) (H:Hp):V→Value→Prop where
 | non:xg K H .non (.type "NoneType")
 | bl (x:Bool):xg K H (.bl x) (.type "bool")
 | int (i:Int):xg K H (.int i) (.type "int")
 | str (x:Str):xg K H (.str x) (.type "str")
 | flt (x:UInt64):xg K H (.flt x) (.type "float")
 | lst {a:Addr} {xs:List V} (e:H a=some (.lst xs)):xg K H (.ref a) (.type "list")
 | frz {a:Addr} {o:Obj} {xs:List V} (e:H a=some (.frz o (.lst xs))):xg K H (.ref a) (.type "list")
 | tup {a:Addr} {xs:List V} (e:H a=some (.tup xs)):xg K H (.ref a) (.type "tuple")
 | dK {a:Addr} {kvs:List (Key × V)} (e:H a=some (.dK kvs)):xg K H (.ref a) (.type "dict")
 | dT {a:Addr} {kvs:List (List Key × V)} (e:H a=some (.dT kvs)):xg K H (.ref a) (.type "dict")
 | ins {a C dx:Addr} {fs:List (Str × V)} (e:H a=some (.ins C dx fs)) (cl:Cls K C) (ha:PySem.W.findIn K (.ref C) "__class__" = some (some (.builtin "object.__class__")))
   (hn:PySem.W.specialIn K (.builtin "object.__class__") "__get__" = some (some (.builtin "getset_descriptor.__get__"))) (htk:PySem.W.takesIn K (.builtin "object.__class__")=some true)
   (hm:PySem.W.mroIn K C (.type "object")=some true):xg K H (.ref a) (.ref C)
theorem yQ {x:V} {u t:Value} (I:Inv X pins σ H s) (rx:RelV x u) (ty:xg X.K H x t) (e:PySem.W.kitOne X.K t c=some b) (h:∀ tk,Q (.bool b) { s with toks:=tk }) :
  wpAny (model X.prog X.w) A (call (.builtin "isinstance") [u,c]) Q E s:=by
 cases ty with
 | non=>cases (show u=Value.none from rx); exact PySem.W.kia_one PySem.W.kitx_none I.kIn True.intro e (fun z=>nomatch z) h
 | bl y=>cases (show u=Value.bool y from rx); exact PySem.W.kia_one PySem.W.kitx_bool I.kIn True.intro e (fun z=>nomatch z) h
 | int i=>obtain ⟨t,q⟩:=(show ∃ t,u=Value.int i t from rx); cases q; exact PySem.W.kia_one PySem.W.kitx_int I.kIn True.intro e (fun z=>nomatch z) h
 | str y=>obtain ⟨t,q⟩:=(show ∃ t,u=Value.str y t from rx); cases q; exact PySem.W.kia_one PySem.W.kitx_str I.kIn True.intro e (fun z=>nomatch z) h
 | flt y=>obtain ⟨t,q⟩:=(show ∃ t,u=Value.float y t from rx); cases q; exact PySem.W.kia_one PySem.W.kitx_float I.kIn True.intro e (fun z=>nomatch z) h
 | @lst a xs ea =>
  cases (show u=Value.ref a from rx)
  obtain ⟨_,_,n,_,h1⟩:=(show cF X.prog X.w H s.heap a (.lst xs) from I.hok a _ ea)
  exact PySem.W.kia_one PySem.W.kitx_list I.kIn ⟨_,h1,rfl⟩ e (fun z=>nomatch z) h
 | @frz a ob xs ea =>
  cases (show u=Value.ref a from rx)
  obtain ⟨_,_,_,n,_,h1⟩:=(show cF X.prog X.w H s.heap a (.frz ob (.lst xs)) from I.hok a _ ea)
  exact PySem.W.kia_one PySem.W.kitx_list I.kIn ⟨_,h1,rfl⟩ e (fun z=>nomatch z) h
 | @tup a xs ea =>
  cases (show u=Value.ref a from rx)
  obtain ⟨_,_,_,p⟩:=(show cF X.prog X.w H s.heap a (.tup xs) from I.hok a _ ea)
  obtain ⟨o,h1,h2,_⟩:=p
  exact PySem.W.kia_one PySem.W.kitx_tuple I.kIn ⟨o,h1,h2⟩ e (fun z=>nomatch z) h
 | @dK a kvs ea =>
  cases (show u=Value.ref a from rx)
  obtain ⟨_,_,vs,_,p⟩:=(show cF X.prog X.w H s.heap a (.dK kvs) from I.hok a _ ea)
  obtain ⟨o,es,ep,h1,h2,_⟩:=p
  exact PySem.W.kia_one PySem.W.kitx_dict I.kIn ⟨o,h1,h2.1⟩ e (fun z=>nomatch z) h
 | @dT a kvs ea =>
  cases (show u=Value.ref a from rx)
  obtain ⟨_,_,xs,_,o,es,ep,h1,h2,_⟩:=(show cF X.prog X.w H s.heap a (.dT kvs) from I.hok a _ ea)
  exact PySem.W.kia_one PySem.W.kitx_dict I.kIn ⟨o,h1,h2.1⟩ e (fun z=>nomatch z) h
 | @ins a C dx fs ea cl ha hn htk hm =>
  cases (show u=Value.ref a from rx)
  obtain ⟨mA,O,_⟩:=Hz I.hok ea
  obtain ⟨od,J,_⟩:=O.look
  exact PySem.W.kia_one (PySem.W.kitx_own (cl.get _) cl.hd ha hn htk hm) I.kIn J e (fun z=>nomatch z) h
end
end L2
namespace L2
open PySem PySem.Spec PyProof.Rows
structure jf (k:Nat) (A:Around):Prop where
 hd:A.handled=none
 dp:A.depth+3 * k+5 < recursionLimit
 un:A.units+16 * k+200 < cLine
theorem jf.mono {j k:Nat} {A:Around} (r:jf k A) (h:j≤k):jf j A:=⟨r.hd,by have:=r.dp; omega,by have:=r.un; omega⟩
theorem jf.deeper {k:Nat} {A:Around} (r:jf (k+1) A) (env:Env):jf k (A.deeper env) :=
 ⟨r.hd,by have:=r.dp; show A.depth+1+3 * k+5 < _; omega,by have:=r.un; show A.units+3+16 * k+200 < _; omega⟩
theorem jf.depth {k:Nat} {A:Around} (r:jf k A):A.depth < recursionLimit:=by have:=r.dp; omega
theorem jf.units {k:Nat} {A:Around} (r:jf k A):A.units+64 < cLine:=by have:=r.un; omega
theorem jf.units0 {k:Nat} {A:Around} (r:jf k A):A.units < cLine:=by have:=r.un; omega
def Nt:TA:=fun _ H Q=>Q [] H
def xG (ta:TE) (tr:TA):TA:=fun σ H Q=>ta σ H fun x H1=>tr σ H1 fun xs H2=>Q (x :: xs) H2
section
variable {X:Cx} {e:Expr} {es:List Expr} {te:TE} {t:TA} {pos:Pos}
theorem ao:PA X [] Nt:=fun _ _ _ _ H Q I h=>Calls.spliced_nil ⟨[],H,I,.nil,h⟩
theorem aj (ha:PE X e te) (hr:PA X es t) (hs:starEach (e :: es) X.env=(false,eval e X.env) :: starEach es X.env:=by rfl):PA X (e :: es) (xG te t):=by
 intro pos pins s σ H Q I h
 rw [hs]
 show wpAny _ _ (spliced ((false,eval e X.env) :: backTo pos (starEach es X.env))) _ _ s
 refine Calls.spliced_cons (thn (ha pins s σ H _ I h) fun u s1 ⟨x,H1,I1,r1,q1⟩=>?_)
 exact thn (hr pos pins s1 σ H1 _ I1 q1) fun us s2 ⟨xs,H2,I2,r2,q2⟩=>⟨x :: xs,H2,I2,.cons r1 r2,q2⟩
def Q6 (t:TA):TE:=fun σ H Q=>t σ H fun xs H1=>xs.length≤sizeLine∧∀ p,H1 p=none→Q (.ref p) (upd H1 p (.tup xs))
def Qi (t:TA):TE:=fun σ H Q=>t σ H fun xs H1=>xs.length≤sizeLine∧∀ p,H1 p=none→Q (.ref p) (upd H1 p (.lst xs))
theorem cB {x1} (h:PA X es t):PE X (.Tuple es x1 pos) (Q6 t):=by
 intro pins s σ H Q I hq
 refine wpAny_Tuple_spliced (thn (h pos pins s σ H _ I hq) fun us s1 ⟨xs,H1,I1,r,z,q⟩=>⟨by rw [← r.length]; exact z,?_⟩)
 have hf:H1 s1.heap.objs.size=none:=I1.hok.fresh (Nat.le_refl _)
 refine ⟨.ref s1.heap.objs.size,upd H1 s1.heap.objs.size (.tup xs),I1.laid (t':=s1.toks) (fun b u e=>Heap.get?_push_of_some _ e) (Nat.le_refl _) ?_,rfl,q _ hf⟩
 exact ⟨z,us,r,⟨_,Heap.get?_push_size _ rfl,rfl,_,rfl⟩⟩
theorem bV (h:PA X es t):PE X (.List es pos) (Qi t):=by
 intro pins s σ H Q I hq
 refine wpAny_List_spliced (thn (h pos pins s σ H _ I hq) fun us s1 ⟨xs,H1,I1,r,z,q⟩=>⟨by rw [← r.length]; exact z,?_⟩)
 have hf:H1 s1.heap.objs.size=none:=I1.hok.fresh (Nat.le_refl _)
 refine ⟨.ref s1.heap.objs.size,upd H1 s1.heap.objs.size (.lst xs),I1.laid (t':=s1.toks) (fun b u e=>Heap.get?_push_of_some _ e) (Nat.le_refl _) ?_,rfl,q _ hf⟩
 exact ⟨z,us,0,r,Heap.get?_push_size _ rfl⟩
end
abbrev Sp:=List V→Hp→VK→XK→Prop
abbrev CXT:=List Env→Hp→Shared→XK→Value→Shared→Prop
structure J1 (P:Program) (w:World) (K:PySem.W.Frag) (mg:Str→Option Value) (base:Heap) (A:Around) (outer:List Env) (s:Shared) (H:Hp):Prop where
 frames:A.frames=some outer
 mod:Mod K mg base
 bs:∀ b o,base.get? b=some o→s.heap.get? b=some o∧H b=none
 bsz:base.objs.size≤s.heap.objs.size
 funs:s.heap.FunFrames base outer
 frf:∀ b∈frs outer,H b=none
 hok:HOk P w H s.heap
 bare:AllBare s.gens
def CE (outer:List Env) (P:Program) (w:World) (H:Hp) (s:Shared) (Q:VK) (u:Value) (s':Shared):Prop :=
 ∃ v H',s'.os=s.os∧AllBare s'.gens∧Un (frs outer) [] H H' s.heap s'.heap∧HOk P w H' s'.heap∧RelV v u∧Q v H'
def CR (CX:CXT) (outer:List Env) (P:Program) (w:World) (H:Hp) (s:Shared) (Q:VK) (E:XK) (r:Result) (s':Shared):Prop :=
 match r with
 | .ok (.ret u)=>CE outer P w H s Q u s'
 | .ok _=>False
 | .error e=>CX outer H s E e s'
structure jQ (P:Program) (w:World) (K:PySem.W.Frag) (mg:Str→Option Value) (base:Heap) (CX:CXT) (k:Nat) (f:Addr) (fd:FuncData) (ps:List Str) (sp:Sp):Prop where
 len:∀ vs H Q E,sp vs H Q E→vs.length=ps.length
 run:∀ (A:Around) (outer:List Env) (s:Shared) (H:Hp) (args:Args) (us:List Value) (vs:List V) (Q:VK) (E:XK),jf k A→J1 P w K mg base A outer s H→BindsTo s fd args (ps.zip us)→Vals vs us→sp vs H Q E →
  codeAny (model P w) A (.call (.ref f) args) (CR CX outer P w H s Q E) s
theorem jQ.mono {P:Program} {w:World} {K:PySem.W.Frag} {mg:Str→Option Value} {base:Heap} {CX:CXT} {j k:Nat} {f:Addr} {fd:FuncData} {ps:List Str} {sp:Sp} (F:jQ P w K mg base CX j f fd ps sp) (h:j≤k) :
  jQ P w K mg base CX k f fd ps sp:=⟨F.len,fun A outer s H args us vs Q E hr=>F.run A outer s H args us vs Q E (hr.mono h)⟩
theorem jQ.imp {P:Program} {w:World} {K:PySem.W.Frag} {mg:Str→Option Value} {base:Heap} {CX:CXT} {k:Nat} {f:Addr} {fd:FuncData} {ps:List Str} {sp sp':Sp} (F:jQ P w K mg base CX k f fd ps sp)
  (h:∀ vs H Q E,sp' vs H Q E→sp vs H Q E):jQ P w K mg base CX k f fd ps sp' :=
 ⟨fun vs H Q E q=>F.len vs H Q E (h _ _ _ _ q),fun A outer s H args us vs Q E hr he hb hv hs=>F.run A outer s H args us vs Q E hr he hb hv (h _ _ _ _ hs)⟩
section
variable {X:Cx} {pins:List (Addr × Obj)} {σ:St} {H:Hp} {s s':Shared}
theorem Inv.env0 (I:Inv X pins σ H s):J1 X.prog X.w X.K X.mg X.base X.A X.stack s H :=
 ⟨I.ok.frames,I.ok.mod,I.bs,Nat.le_trans I.ok.bsz I.sz,I.stack,I.stkFree,I.hok,I.bare⟩
theorem Inv.after {Q:VK} {u:Value} (I:Inv X pins σ H s) (h:CE X.stack X.prog X.w H s Q u s'):EP X pins σ Q u s':=by
 obtain ⟨v,H',os,bare,un,hok,r,q⟩:=h
 obtain ⟨hh,g,d,t,os'⟩:=s'
 obtain rfl:os'=s.os:=os
 exact ⟨v,H',I.call (h':=hh) (g':=g) (d':=d) (t':=t) (ch:=[]) un hok bare (fun b z=>absurd z (by simp)),r,q⟩
end
def Jb (sp:Sp) (dvs:List V) (E:XK) (t:TA):TE:=fun σ H Q=>t σ H fun vs H1=>sp (vs++dvs) H1 Q E
def Binds (K:PySem.W.Frag) (fd:FuncData) (ps:List Str) (ds:List Value):Prop :=
 ∀ (s:Shared) (us:List Value),K.In s.heap→(us++ds).length=ps.length→BindsTo s fd ⟨us,[]⟩ (ps.zip (us++ds))
theorem Binds.all {K:PySem.W.Frag} {fd:FuncData} {ps:List Str} (h:∀ us:List Value,us.length=ps.length→bindArgs fd ⟨us,[]⟩=pure (ps.zip us)):Binds K fd ps []:=fun s us _ hl=>by
 rw [List.append_nil] at hl ⊢
 exact .of_eq (h us hl)
def Passes (CX:CXT) (X:Cx) (E:XK):Prop:=∀ (pins:List (Addr × Obj)) (σ:St) (H:Hp) (s:Shared) (e:Value) (s':Shared),Inv X pins σ H s→CX X.stack H s E e s'→X.xe e s'
section
variable {X:Cx} {CX:CXT} {k:Nat} {f C:Addr} {fd:FuncData} {ps:List Str} {sp:Sp} {dvs:List V} {ds:List Value} {E:XK} {x m:Str} {p pos apos:Pos} {e o:Expr} {es:List Expr} {ta:TE} {t:TA}
theorem LQ {pins:List (Addr × Obj)} {σ:St} {H:Hp} {s:Shared} {Q:VK} {us:List Value} {vs:List V} (F:jQ X.prog X.w X.K X.mg X.base CX k f fd ps sp) (hr:jf k X.A) (hb:Binds X.K fd ps ds) (hd:Vals dvs ds) (hx:Passes CX X E)
  (I:Inv X pins σ H s) (r:Vals vs us) (h:sp (vs++dvs) H Q E):wpAny (model X.prog X.w) X.A (call (.ref f) us) (EP X pins σ Q) X.xe s:=by
 have r2:Vals (vs++dvs) (us++ds):=r.append hd
 have hl:(us++ds).length=ps.length:=by rw [← r2.length]; exact F.len _ _ _ _ h
 refine wpAny_call (codeAny_mono (F.run X.A X.stack s H ⟨us,[]⟩ (us++ds) (vs++dvs) Q E hr I.env0 (hb s us I.kIn hl) r2 h) fun r s' hq=>?_)
 cases r with
 | error e=>exact hx pins σ H s e s' I hq
 | ok fl =>
  cases fl with
  | ret u=>exact I.after hq
  | next=>exact False.elim hq
  | brk=>exact False.elim hq
  | cont=>exact False.elim hq
theorem Ay (F:jQ X.prog X.w X.K X.mg X.base CX k f fd ps sp) (hr:jf k X.A) (hg:Gl X x) (hm:X.mg x=some (.ref f)) (hk:PySem.W.keepIn X.K (.ref f)=true) (hb:Binds X.K fd ps ds) (hd:Vals dvs ds) (hx:Passes CX X E)
  (ha:PA X (e :: es) t) (hdb:(x == ("__debug__" : Str))=false:=by decide) (he:starEach (e :: es) X.env=(false,eval e X.env) :: starEach es X.env:=by rfl) (hpl:(backTo pos (starEach es X.env)).any (·.1)=false:=by rfl) :
  PE X (.Call (.Name x p) (e :: es) [] pos) (Jb sp dvs E t):=by
 intro pins s σ H Q I h
 refine wpAny_Call_Name_kw (lX I hg hm ?_ hdb)
 refine PySem.W.callWith_K (h₀:=X.base) I.ok.mod.kin hk (thn (ha pos pins s σ H _ I h) fun us s1 ⟨vs,H1,I1,r,q⟩=>⟨I1.kIn,?_⟩) he hpl
 exact LQ F hr hb hd hx I1 r q
structure Mk (K:PySem.W.Frag) (C f:Addr):Prop where
 makes:PySem.W.makesIn K C=true
 init:PySem.W.findIn K (.ref C) "__init__" = some (some (.ref f))
 fn:PySem.W.isFn K (.ref f)=true
 kp:PySem.W.keepIn K (.ref C)=true
end
section
variable {X:Cx} {CX:CXT} {k:Nat} {f C:Addr} {fd:FuncData} {ps ks:List Str} {sp:Sp} {E:XK} {x m:Str} {p pos apos kpos:Pos} {e o:Expr} {es:List Expr} {kws:List Keyword} {te ta:TE} {t tk:TA} {nm:Option Str}
structure Qm (K:PySem.W.Frag) (fd:FuncData) (ps ks:List Str) (g:List Value→List Value→List Value) (gV:List V→List V→List V):Prop where
 to:∀ (s:Shared) (us ws:List Value),K.In s.heap→(g us ws).length=ps.length→BindsTo s fd ⟨us,ks.zip ws⟩ (ps.zip (g us ws))
 rel:∀ {vs:List V} {us:List Value} {zs:List V} {ws:List Value},Vals vs us→Vals zs ws→Vals (gV vs zs) (g us ws)
variable {g:List Value→List Value→List Value} {gV:List V→List V→List V}
end
structure aQ (N P:List Str) (sc:Scope):Prop where
 kind:sc.kind=.function
 co:sc.isCoroutine=false
 gen:sc.isGenerator=false
 nd:N.Nodup
 pre:N.take P.length=P
 par:∀ x∈P,sc.names.lookup x=some .local∨sc.names.lookup x=some .cell
 nofree:∀ y∈sc.names,y.2≠.free
theorem qw {kindOf:Str→Option NameKind} {x:Str}:∀ {binds:List (Str × Value)} {m:Str→Option Value},(∀ v,(x,v) ∉ binds)→bindL kindOf binds m x=m x
 | [],_,_=>rfl
 | (n,v) :: r,m,h=>by
  unfold bindL
  rw [qw fun w hw=>h w (List.mem_cons_of_mem _ hw)]
  split
  ·have:x≠n:=by rintro rfl; exact h v List.mem_cons_self
   simp [this]
  ·rfl
theorem qR {kindOf:Str→Option NameKind} {x:Str}:∀ {binds:List (Str × Value)} {m:Str→Option Value},(∀ v,(x,v) ∉ binds)→bindC kindOf binds m x=m x
 | [],_,_=>rfl
 | (n,v) :: r,m,h=>by
  unfold bindC
  rw [qR fun w hw=>h w (List.mem_cons_of_mem _ hw)]
  split
  ·rfl
  ·have:x≠n:=by rintro rfl; exact h v List.mem_cons_self
   simp [this]
theorem qY {kindOf:Str→Option NameKind} {x:Str} {v:Value}:∀ {P:List Str} {vs:List Value} {i:Nat} {m:Str→Option Value},P.Nodup→P[i]?=some x→vs[i]?=some v→kindOf x=some .local →
  bindL kindOf (P.zip vs) m x=some v
 | [],_,_,_,_,h,_,_=>by simp at h
 | _ :: _,[],_,_,_,_,h,_=>by simp at h
 | p :: P,w :: vs,0,m,nd,h1,h2,hk=>by
  simp at h1 h2; subst h1; subst h2
  show bindL kindOf ((p,w) :: P.zip vs) m p=_
  unfold bindL
  rw [qw fun v hv=>(List.nodup_cons.mp nd).1 (List.of_mem_zip hv).1,if_pos hk]
  simp
 | p :: P,w :: vs,i+1,m,nd,h1,h2,hk=>by
  show bindL kindOf ((p,w) :: P.zip vs) m x=_
  unfold bindL
  exact qY (i:=i) (List.nodup_cons.mp nd).2 (by simpa using h1) (by simpa using h2) hk
theorem qT {kindOf:Str→Option NameKind} {x:Str} {v:Value}:∀ {P:List Str} {vs:List Value} {i:Nat} {m:Str→Option Value},P.Nodup→P[i]?=some x→vs[i]?=some v→kindOf x≠some .local →
  bindC kindOf (P.zip vs) m x=some v
 | [],_,_,_,_,h,_,_=>by simp at h
 | _ :: _,[],_,_,_,_,h,_=>by simp at h
 | p :: P,w :: vs,0,m,nd,h1,h2,hk=>by
  simp at h1 h2; subst h1; subst h2
  show bindC kindOf ((p,w) :: P.zip vs) m p=_
  unfold bindC
  rw [qR fun v hv=>(List.nodup_cons.mp nd).1 (List.of_mem_zip hv).1,if_neg hk]
  simp
 | p :: P,w :: vs,i+1,m,nd,h1,h2,hk=>by
  show bindC kindOf ((p,w) :: P.zip vs) m x=_
  unfold bindC
  exact qT (i:=i) (List.nodup_cons.mp nd).2 (by simpa using h1) (by simpa using h2) hk
def start (N:List Str) (vs:List V):St:=vs.map some++List.replicate (N.length - vs.length) none
def uy (CX:CXT) (P:Program) (w:World) (K:PySem.W.Frag) (mg:Str→Option Value) (base:Heap) (N:List Str) (qual:Str) (scope:Scope) (f:Addr) (cd:Value) (A:Around) (outer:List Env) (s:Shared) (H:Hp) (E:XK):Cx where
 prog:=P
 w:=w
 K:=K
 mg:=mg
 base:=base
 A:=A.deeper (envOfC qual scope s.heap.objs.size f cd)
 N:=N
 s₀:=s
 H₀:=H
 env:=envOfC qual scope s.heap.objs.size f cd
 outer:=outer
 stack:=envOfC qual scope s.heap.objs.size f cd :: outer
 ex:=[]
 calm:=true
 fn:=fun _=>true
 pn:=[]
 xe:=fun e s'=>wpAny (model P w) (A.deeper (envOfC qual scope s.heap.objs.size f cd)) (leaving (envOfC qual scope s.heap.objs.size f cd) e) (fun _ s''=>CX outer H s E e s'') (fun e' s''=>CX outer H s E e' s'') s'
theorem uo {sc:Scope} {n:Nat} {x:Str} (h:sc.names.lookup x=some .cell):∃ c,(cellsFrom n sc.names []).lookup x=some c:=by
 have q:=PySem.W.cellsFrom_some sc.names n [] (.inl h)
 exact Option.isSome_iff_exists.mp q
theorem zT {CX:CXT} {P:Program} {w:World} {K:PySem.W.Frag} {mg:Str→Option Value} {base:Heap} {N ps:List Str} {qual:Str} {scope:Scope} {f:Addr} {cd:Value} {A:Around} {outer:List Env} {s s1:Shared} {H:Hp} {E:XK} {us:List Value} {vs:List V}
  (S:aQ N ps scope) (hd:A.handled=none) (e0:J1 P w K mg base A outer s H) (hl:vs.length=ps.length) (r:Vals vs us)
  (x:InCallC s s.heap.objs.size (bindL (envOfC qual scope s.heap.objs.size f cd).kindOf (ps.zip us) fun _=>none) (cellsFrom (s.heap.objs.size+1) scope.names []) (bindC (envOfC qual scope s.heap.objs.size f cd).kindOf (ps.zip us) fun _=>none) s1) :
  Inv (uy CX P w K mg base N qual scope f cd A outer s H E) [] (start N vs) H s1:=by
 have hpl:ps.length≤N.length:=by have:=congrArg List.length S.pre; rw [List.length_take] at this; omega
 obtain ⟨h1,tk,rfl,hk⟩:=x.done
 have noA:∀ b:Addr,b ∉ (uy CX P w K mg base N qual scope f cd A outer s H E).ex:=fun b z=>absurd (show b∈([]:List Addr) from z) (by simp)
 refine ⟨⟨e0.mod,S.kind,rfl,rfl,Nat.le_refl _,fun y z c h1 h2=>?_,fun y hy=>?_,fun y c _ h=>?_,fun _=>hd,Around.frames_deeper e0.frames,.inr ⟨rfl,rfl⟩,fun b z=>absurd z (noA b),e0.bs,e0.bsz,fun b _ _=>noA b,fun b z=>absurd z (noA b),e0.funs,e0.frf⟩,
  rfl,e0.bare,Un.kept hk,⟨_,x.toInCall.ns,fun i y v h1 h2 h3=>?_⟩,fun y c h=>⟨_,x.cell y c h⟩,e0.hok.fresh (Nat.le_refl _),fun y c h=>?_,fun p hp=>absurd (show p∈([]:List (Addr × Obj)) from hp) (by simp),e0.hok.kept hk,?_⟩
 ·exact name_of_addr x.apart (PySem.mem_of_lookup h1) (PySem.mem_of_lookup h2)
 ·have hy:scope.names.lookup y=some .cell∨scope.names.lookup y=some .free:=hy
  rcases hy with hy | hy
  ·exact uo hy
  ·exact absurd rfl (S.nofree _ (PySem.mem_of_lookup hy))
 ·exact Nat.le_of_lt (x.above y c (PySem.mem_of_lookup h))
 ·have hi:i < vs.length:=by
   unfold start at h2
   by_cases hi:i < vs.length
   ·exact hi
   ·rw [List.getElem?_append_right (by simpa using hi)] at h2
    rw [List.getElem?_replicate] at h2
    split at h2 <;> cases h2
  have ha:vs[i]?=some v:=by
   unfold start at h2
   rw [List.getElem?_append_left (by simpa using hi),List.getElem?_map] at h2
   cases e:vs[i]? with
   | none=>rw [e] at h2; cases h2
   | some a=>rw [e] at h2; cases h2; rfl
  obtain ⟨u,hu,rv⟩:=r.get ha
  have hp:ps[i]?=some y:=by
   rw [← S.pre,List.getElem?_take_of_lt (by omega)]; exact h1
  have ndP:ps.Nodup:=by rw [← S.pre]; exact S.nd.sublist (List.take_sublist _ _)
  refine ⟨u,rv,?_⟩
  rcases S.par y (List.mem_of_getElem? hp) with k | k
  ·exact .inl ⟨k,qY ndP hp hu k⟩
  ·obtain ⟨c,e⟩:=uo (n:=s.heap.objs.size+1) k
   refine .inr ⟨.inl k,c,e,?_⟩
   have q:=x.cell y c e
   rw [qT ndP hp hu (by show scope.names.lookup y≠_; rw [k]; decide)] at q
   exact q
 ·exact e0.hok.fresh (Nat.le_of_lt (x.above y c (PySem.mem_of_lookup h)))
 ·unfold start
  show _=N.length
  rw [List.length_append,List.length_map,List.length_replicate]
  omega
theorem Nh {CX:CXT} {P:Program} {w:World} {K:PySem.W.Frag} {mg:Str→Option Value} {base:Heap} {k:Nat} {f:Addr} {name qual:Str} {params:Arguments} {body:List Stmt} {scope:Scope} {dV kV doc pm cdv ct oc:Value} {an od:Option Addr}
  {osl:Array (Option Value)} {N ps:List Str} {sp:Sp} (lk:K.lookup f=some ⟨oc,od,.func (PySem.W.fnOf name qual params body scope dV kV doc pm an cdv ct),osl⟩) (hcd:PySem.W.codeIn K cdv qual=true) (S:aQ N ps scope)
  (len:∀ vs H Q E,sp vs H Q E→vs.length=ps.length)
  (hbody:∀ (A:Around) (outer:List Env) (s:Shared) (H:Hp) (vs:List V) (Q:VK) (E:XK),jf k (A.deeper (envOfC qual scope s.heap.objs.size f cdv))→sp vs H Q E →
   ∃ t,PSs (uy CX P w K mg base N qual scope f cdv A outer s H E) body t∧t { nx:=fun _ H'=>Q .non H',rt:=Q } (start N vs) H) :
  jQ P w K mg base CX (k+1) f (PySem.W.fnOf name qual params body scope dV kV doc pm an cdv ct) ps sp:=by
 refine ⟨len,fun A outer s H args us vs Q E hr e0 hb r hsp=>?_⟩
 have hl:=len _ _ _ _ hsp
 have KX:K.In s.heap:=e0.mod.kin.keeps fun b o e=>(e0.bs b o e).1
 have lim:s.heap.NoLimit:=e0.mod.nolimit.keeps fun b o e=>(e0.bs b o e).1
 have hkind:∀ y∈ps.zip us,scope.names.lookup y.1=some .local∨(scope.names.lookup y.1=some .cell∧((cellsFrom (s.heap.objs.size+1) scope.names []).lookup y.1).isSome=true):=fun ⟨n,v⟩ hy=>by
  rcases S.par n (List.of_mem_zip hy).1 with q | q
  ·exact .inl q
  ·exact .inr ⟨q,PySem.W.cellsFrom_some _ _ _ (.inl q)⟩
 refine codeAny_call_function hr.depth (KX _ _ lk) rfl S.co S.gen rfl (PySem.W.codeRec_of KX hcd) (hb _ _ _ _ ?_)
 refine wpAny_newFunctionEnv_cells S.kind hkind fun env he s1 x=>?_
 subst he
 refine ⟨lim.keeps x.toInCall.keep,codeAny_func ?_⟩
 obtain ⟨t,ht,hq⟩:=hbody A outer s H vs Q E (hr.deeper _) hsp
 have I:Inv (uy CX P w K mg base N qual scope f cdv A outer s H E) [] (start N vs) H s1:=zT S hr.hd e0 hl r x
 refine wpAny_mono (ht [] s1 (start N vs) H _ I hq) (fun fl s' hs=>?_) fun e s' hs=>hs
 have fin:∀ {σ':St} {H':Hp} {v:V} {u:Value},Inv (uy CX P w K mg base N qual scope f cdv A outer s H E) [] σ' H' s'→RelV v u→Q v H'→CE outer P w H s Q u s' :=
  fun {σ' H' v u} J rv q=>⟨v,H',J.os,J.bare,J.base,J.hok,rv,q⟩
 cases fl with
 | ret u =>
  obtain ⟨v,σ',H',J,rv,q⟩:=hs
  exact fin J rv q
 | next =>
  obtain ⟨σ',H',J,q⟩:=hs
  exact fin (v:=V.non) (u:=Value.none) J rfl q
 | brk =>
  obtain ⟨_,_,_,q⟩:=hs
  exact False.elim q
 | cont =>
  obtain ⟨_,_,_,q⟩:=hs
  exact False.elim q
end L2
namespace L2
open PySem PySem.Spec PyProof.Rows
section
variable {X:Cx} {x:Str} {p pos:Pos} {e:Expr} {es:List Expr} {t:TA} {id T:String} {r:List V→Hp→VK→Prop}
def tCB (r:List V→Hp→VK→Prop) (t:TA):TE:=fun σ H Q=>t σ H fun vs H1=>r vs H1 Q
theorem aP (hc:fQ X (.builtin id) r) (hg:Gl X x) (hm:X.mg x=none) (hv:bootBuiltins x=some (.builtin id)) (ha:PA X (e :: es) t) (hn:x ≠ "__name__":=by decide) (hdb:(x == ("__debug__" : Str))=false:=by decide)
  (he:starEach (e :: es) X.env=(false,eval e X.env) :: starEach es X.env:=by rfl) (hpl:(backTo pos (starEach es X.env)).any (·.1)=false:=by rfl):PE X (.Call (.Name x p) (e :: es) [] pos) (tCB r t):=by
 intro pins s σ H Q I h
 refine wpAny_Call_Name_kw (vg I hg hm hv ?_ hn hdb)
 exact PyProof.Rows.callWith_builtin1 (thn (ha pos pins s σ H _ I h) fun us s1 ⟨vs,H1,I1,r1,q1⟩=>hc pins s1 σ H1 vs us Q I1 r1 q1) he hpl
theorem aM (hc:fQ X (.type T) r) (hg:Gl X x) (hm:X.mg x=none) (hv:bootBuiltins x=some (.type T)) (ha:PA X (e :: es) t) (hn:x ≠ "__name__":=by decide) (hdb:(x == ("__debug__" : Str))=false:=by decide)
  (he:starEach (e :: es) X.env=(false,eval e X.env) :: starEach es X.env:=by rfl) (hpl:(backTo pos (starEach es X.env)).any (·.1)=false:=by rfl):PE X (.Call (.Name x p) (e :: es) [] pos) (tCB r t):=by
 intro pins s σ H Q I h
 refine wpAny_Call_Name_kw (vg I hg hm hv ?_ hn hdb)
 exact PyProof.Rows.callWith_type1 (thn (ha pos pins s σ H _ I h) fun us s1 ⟨vs,H1,I1,r1,q1⟩=>hc pins s1 σ H1 vs us Q I1 r1 q1) he hpl
end
end L2
namespace HT
open PySem PyProof.Rows
section
open PySem.SeqAt
open PySem.AutoSeq1 (wpAny_loadPart')
open PySem.MeetsSeq PySem.MeetsSeq2 PySem.MeetsSeq3
end
section
variable {prog:Program} {w:World} {A:Around} {E:Value→Shared→Prop} {s:Shared}
theorem Il {t b:Addr} {vs ws:List Value} {Q:Value→Shared→Prop} (ht:IsTup s.heap t vs.toArray) (hb:IsTup s.heap b ws.toArray) (hv:vs≠[])
  (h1:ws=[]→Q (.ref t) s) (h2:ws≠[]→Q (.ref s.heap.objs.size) { s with heap:=s.heap.push { cls:=.type "tuple",data:=.seq (vs++ws).toArray } })
  (hsz:vs.length+ws.length≤sizeLine):wpAny (model prog w) A (binaryOp .Add (.ref t) (.ref b)) Q E s:=by
 obtain ⟨⟨cls,dd,data,sl⟩,ho,hc,n,hd⟩:=id ht
 obtain ⟨⟨cls2,dd2,data2,sl2⟩,ho2,hc2,n2,hd2⟩:=id hb
 simp only at hc hd hc2 hd2
 subst hc hd hc2 hd2
 have e:vs.toArray++ws.toArray=(vs++ws).toArray:=by simp
 by_cases hw:ws=[]
 ·exact concat_meets ⟨_,ho,rfl⟩ ⟨_,ho2,rfl⟩ noFill_tuple_add seq_tuple_add PySem.F.slot_tuple_add PySem.F.entry_tuple_add (PySem.F.args_tuple_add_2 _ _)
   (tuple_addW1 t b vs.toArray ws.toArray n n2 dd dd2 sl sl2 (by simpa using hv) (by simp [hw])) ⟨ho,ho2,h1 hw⟩
 ·refine concat_meets ⟨_,ho,rfl⟩ ⟨_,ho2,rfl⟩ noFill_tuple_add seq_tuple_add PySem.F.slot_tuple_add PySem.F.entry_tuple_add (PySem.F.args_tuple_add_2 _ _)
   (tuple_addW2 t b vs.toArray ws.toArray n n2 dd dd2 sl sl2 (by simpa using hv) (by simpa using hw) (by rw [List.size_toArray,List.size_toArray]; exact hsz)) ⟨ho,ho2,?_⟩
  rw [e]
  exact h2 hw
def sIx (n d:Nat):Option Int→Nat
 | none=>d
 | some v=>if v < 0 then (v+(n:Int)).toNat else min v.toNat n
theorem pR (n d:Nat):sIx n d none=d:=rfl
theorem tO (n d k:Nat):sIx n d (some (k:Int))=min k n:=by
 show (if (k:Int) < 0 then ((k:Int)+(n:Int)).toNat else min (k:Int).toNat n)=min k n
 rw [if_neg (by omega),Int.toNat_natCast]
theorem Le (n d:Nat) (hd:d≤n) (o:Option Int):sIx n d o≤n:=by
 cases o with
 | none=>exact hd
 | some v =>
  show (if v < 0 then (v+(n:Int)).toNat else min v.toNat n)≤n
  by_cases hv:v < 0
  ·rw [if_pos hv]; omega
  ·rw [if_neg hv]; exact Nat.min_le_right _ _
theorem BJ (v:Int) (n d:Nat):(if v < 0 then max (v+(n:Int)) 0 else min v (n:Int))=((sIx n d (some v):Nat):Int):=by
 show (if v < 0 then max (v+(n:Int)) 0 else min v (n:Int))=(((if v < 0 then (v+(n:Int)).toNat else min v.toNat n):Nat):Int)
 by_cases hv:v < 0
 ·simp only [if_pos hv]; omega
 ·simp only [if_neg hv]; omega
theorem wD (lo hi:Option Int) (n:Nat):Builtin.Slice.sliceAdjust lo hi 1 (n:Int)=(((sIx n 0 lo:Nat):Int),((sIx n n hi:Nat):Int)):=by
 have h1:¬ ((1:Int) < 0):=by omega
 unfold Builtin.Slice.sliceAdjust
 simp only [h1,if_false]
 refine Prod.ext ?_ ?_
 ·cases lo with
  | none=>rfl
  | some v=>exact BJ v n 0
 ·cases hi with
  | none=>rfl
  | some v=>exact BJ v n n
theorem wj (i j:Nat):Builtin.Slice.slicePlaces (i:Int) (j:Int) 1=j - i:=by
 unfold Builtin.Slice.slicePlaces
 have h1:(1:Int) > 0:=by omega
 simp only [h1,if_true,Int.ediv_one]
 split <;> omega
theorem mX {v:Value} {o:Option Int} {Q:Option Int→Shared→Prop} (p:IsPart v o) (h:Q o s):wpAny (model prog w) A (Builtin.Slice.slicePartIndex v) Q E s:=by
 cases p with
 | none=>exact slicePart_none h
 | int i t=>exact slicePart_int h
theorem fP {sl:Addr} {vl vu:Value} {lo hi:Option Int} {n:Nat} {Q:Int × Int × Nat→Shared→Prop} (hs:s.heap.IsSliceOf sl vl vu .none) (pl:IsPart vl lo) (pu:IsPart vu hi)
  (h:Q (((sIx n 0 lo:Nat):Int),1,sIx n n hi - sIx n 0 lo) s):wpAny (model prog w) A (Builtin.Slice.sliceApplied (.ref sl) (pure (n:Int))) Q E s:=by
 obtain ⟨os,hos,hcs,hds⟩:=id hs
 unfold Builtin.Slice.sliceApplied Builtin.Slice.sliceFields
 refine wpAny_bind (wpAny_bind (wpAny_field hos hds (x:=vl) rfl (wpAny_bind (wpAny_field hos hds (x:=vu) rfl (wpAny_bind (wpAny_field hos hds (x:=.none) rfl (wpAny_pure ?_)))))))
 refine wpAny_bind (slicePart_none ?_)
 show wpAny _ _ (if ((1:Int) == 0)=true then _ else _) _ _ s
 rw [if_neg (by decide)]
 refine wpAny_bind (mX pl (wpAny_bind (mX pu (wpAny_bind (wpAny_pure ?_)))))
 show wpAny _ _ (match Builtin.Slice.sliceAdjust lo hi 1 (n:Int) with | (lo,hi)=>pure (lo,(1:Int),Builtin.Slice.slicePlaces lo hi 1)) _ _ s
 rw [wD lo hi n]
 show wpAny _ _ (pure (((sIx n 0 lo:Nat):Int),(1:Int),Builtin.Slice.slicePlaces ((sIx n 0 lo:Nat):Int) ((sIx n n hi:Nat):Int) 1)) _ _ s
 rw [wj]
 exact wpAny_pure h
theorem Dn (xs:Array Value) (i k:Nat):((List.range k).filterMap fun (m:Nat)=>xs[((i:Int)+(m:Int) * 1).toNat]?).toArray=((xs.toList.drop i).take k).toArray:=by
 have e:(fun (m:Nat)=>xs[((i:Int)+(m:Int) * 1).toNat]?)=fun m=>xs[i+m]?:=by
  funext m
  have:((i:Int)+(m:Int) * 1).toNat=i+m:=by omega
  rw [this]
 rw [e]
 have:=pick_run xs i k
 rw [List.filterMap_map] at this
 have e2:((fun x=>xs[x]?) ∘ fun x=>i+x)=fun m=>xs[i+m]?:=rfl
 rw [e2] at this
 rw [this]
theorem jl {t sl:Addr} {items:Array Value} {vl vu:Value} {lo hi:Option Int} {Q:Value→Shared→Prop} (ht:IsTup s.heap t items) (hs:s.heap.IsSliceOf sl vl vu .none) (pl:IsPart vl lo) (pu:IsPart vu hi)
  (hw:¬ (sIx items.size 0 lo=0∧sIx items.size items.size hi=items.size))
  (h:Q (.ref s.heap.objs.size) { s with heap:=s.heap.push { cls:=.type "tuple",data:=.seq ((items.toList.drop (sIx items.size 0 lo)).take (sIx items.size items.size hi - sIx items.size 0 lo)).toArray } })
  (hsz:items.size≤sizeLine):wpAny (model prog w) A (getItem (.ref t) (.ref sl)) Q E s:=by
 have htake:sizeOk (.seq ((items.toList.drop (sIx items.size 0 lo)).take (sIx items.size items.size hi - sIx items.size 0 lo)).toArray):=by
  show ((items.toList.drop (sIx items.size 0 lo)).take (sIx items.size items.size hi - sIx items.size 0 lo)).toArray.size≤sizeLine
  rw [List.size_toArray,List.length_take,List.length_drop,Array.length_toList]
  omega
 have hj:sIx items.size items.size hi≤items.size:=Le _ _ (Nat.le_refl _) hi
 obtain ⟨os,hos,hcs,hds⟩:=id hs
 have hTs:s.TypeIs (.ref sl) "slice":=⟨os,hos,hcs⟩
 unfold getItem
 try with_reducible refine wpAny_holding ?_
 first | refine wpAny_bind (wpAny_pure ?_) | skip
 refine wpAny_bind (wpAny_sequenceKey ht.typeIs (by decide) ?_)
 refine wpAny_bind (wpAny_callSpecial?_slot (name:=Str.ofString "__getitem__") ht.typeIs PyProof.Rows.slot_tuple_getitem
  (wpAny_call_entry PyProof.Rows.slot_tuple_getitem ht.typeIs entry_tuple_getitem ?_ (args_tuple_getitem _ _)))
 show wpAny _ _ (Builtin.Tuple.tupleItemsOf (.ref t) >>= _) _ _ s
 refine wpAny_bind (tupleItemsOf_ ht ?_)
 refine wpAny_bind (wpAny_typeOf hTs ?_)
 rw [if_pos (by decide)]
 refine wpAny_bind (fP hs pl pu ?_)
 have hno:¬ ((((sIx items.size 0 lo:Nat):Int) == 0 && (1:Int) == 1 && (sIx items.size items.size hi - sIx items.size 0 lo) == items.size)=true):=by
  intro q
  rw [Bool.and_eq_true,Bool.and_eq_true] at q
  have q1:((sIx items.size 0 lo:Nat):Int)=0:=eq_of_beq q.1.1
  have q2:sIx items.size items.size hi - sIx items.size 0 lo=items.size:=eq_of_beq q.2
  exact hw ⟨by omega,by omega⟩
 show wpAny _ _ (if (((sIx items.size 0 lo:Nat):Int) == 0 && (1:Int) == 1 && (sIx items.size items.size hi - sIx items.size 0 lo) == items.size)=true then _ else _) _ _ s
 rw [if_neg hno,Dn]
 first
  | exact wpAny_bind (m:=Builtin.Tuple.tupleExact _) (wpAny_newObj_type (wpAny_pure ⟨_,rfl,wpAny_pure h⟩) htake)
  | exact wpAny_bind (m:=Builtin.Tuple.tupleExact _) (wpAny_newObj_type (wpAny_bind (wpAny_pure (wpAny_pure ⟨_,rfl,wpAny_pure h⟩))) htake)
  | exact wpAny_bind (wpAny_bind (m:=Builtin.Tuple.tupleExact _) (wpAny_newObj_type (wpAny_pure (wpAny_pure ⟨_,rfl,wpAny_pure h⟩)) htake))
  | exact wpAny_bind (wpAny_bind (m:=Builtin.Tuple.tupleExact _) (wpAny_newObj_type (wpAny_pure ⟨_,rfl,wpAny_pure h⟩) htake))
end
end HT
namespace L2
open PySem PySem.Spec PyProof.Rows
abbrev TO:=St→Hp→(Option Int→Hp→Prop)→Prop
def PO (X:Cx) (e:Option Expr) (t:TO):Prop :=
 ∀ (pins:List (Addr × Obj)) (s:Shared) (σ:St) (H:Hp) (Q:Option Int→Hp→Prop),Inv X pins σ H s→t σ H Q →
  wpAny (model X.prog X.w) X.A (evalPart e X.env) (fun u s'=>∃ o H',Inv X pins σ H' s'∧IsPart u o∧Q o H') X.xe s
def Js:TO:=fun _ H Q=>Q none H
def Pu (t:TE):TO:=fun σ H Q=>t σ H fun x H1=>∃ i,x=.int i∧Q (some i) H1
section
variable {X:Cx} {e:Expr} {te:TE} {lo hi:Option Expr} {tl th:TO} {pos p2:Pos}
theorem dh:PO X none Js:=by
 intro pins s σ H Q I h
 rw [evalPart_none]
 exact wpAny_pure ⟨none,H,I,.none,h⟩
theorem dg (h:PE X e te):PO X (some e) (Pu te):=by
 intro pins s σ H Q I hw
 rw [evalPart_some]
 refine thn (h pins s σ H _ I hw) fun u s1 ⟨x,H1,I1,r1,q1⟩=>?_
 obtain ⟨i,rfl,q⟩:=q1
 obtain ⟨t,rfl⟩:=r1
 exact ⟨some i,H1,I1,.int i t,q⟩
def SlR (X:Cx) (r:V→Option Int→Option Int→Hp→VK→Prop):Prop :=
 ∀ (pins:List (Addr × Obj)) (s:Shared) (σ:St) (H:Hp) (x:V) (v vl vu:Value) (lo hi:Option Int) (sl:Addr) (Q:VK),Inv X pins σ H s→RelV x v→s.heap.IsSliceOf sl vl vu .none→IsPart vl lo→IsPart vu hi→r x lo hi H Q →
  ∃ T id,typeLookup (.type T) "__getitem__" = pure (some (.builtin id))∧s.TypeIs v T∧wpAny (model X.prog X.w) X.A (getItem v (.ref sl)) (EP X pins σ Q) X.xe s
def tSl (r:V→Option Int→Option Int→Hp→VK→Prop) (te:TE) (tl th:TO):TE:=fun σ H Q=>te σ H fun x H1=>tl σ H1 fun l H2=>th σ H2 fun u H3=>r x l u H3 Q
theorem cC {r:V→Option Int→Option Int→Hp→VK→Prop} (hr:SlR X r) (he:PE X e te) (hl:PO X lo tl) (hu:PO X hi th):PE X (.Subscript e (.Slice lo hi none p2) pos) (tSl r te tl th):=by
 intro pins s σ H Q I h
 refine Subscript_ (thn (he pins s σ H _ I h) fun v s1 ⟨x,H1,I1,r1,q1⟩=>?_)
 refine wpAny_Slice (thn (hl pins s1 σ H1 _ I1 q1) fun vl s2 ⟨l,H2,I2,pl,q2⟩=>thn (hu pins s2 σ H2 _ I2 q2) fun vu s3 ⟨u,H3,I3,pu,q3⟩=>?_)
 rw [evalPart_none]
 refine wpAny_pure ?_
 have I4:Inv X pins σ H3 { s3 with heap:=s3.heap.push { cls:=.type "slice",data:=.fields #[vl,vu,.none] } }:=I3.kept (t':=s3.toks) fun b ob q=>Heap.get?_push_of_some _ q
 obtain ⟨T,id,hT,ht,hg⟩:=hr pins { s3 with heap:=s3.heap.push { cls:=.type "slice",data:=.fields #[vl,vu,.none] } } σ H3 x v vl vu l u s3.heap.objs.size Q I4 r1 (Heap.IsSliceOf.new ..) pl pu q3
 show wpAny (model X.prog X.w) X.A (subscriptTail e (.Slice lo hi none p2) v (.ref s3.heap.objs.size)) (EP X pins σ Q) X.xe { s3 with heap:=s3.heap.push { cls:=.type "slice",data:=.fields #[vl,vu,.none] } }
 exact tail_any (ops:=[.ref s3.heap.objs.size,v]) ht hT hg (by with_unfolding_all rfl)
def rM (xs:List V) (lo hi:Option Int):List V:=(xs.drop (HT.sIx xs.length 0 lo)).take (HT.sIx xs.length xs.length hi - HT.sIx xs.length 0 lo)
theorem lE (xs:List V) (lo hi:Option Int):(rM xs lo hi).length≤xs.length:=by
 unfold rM
 rw [List.length_take,List.length_drop]
 omega
def Qn (K:PySem.W.Frag):V→Option Int→Option Int→Hp→VK→Prop:=fun x lo hi H Q=>∃ a xs,x=.ref a∧SqT K H a xs ∧
 ¬ (HT.sIx xs.length 0 lo=0∧HT.sIx xs.length xs.length hi=xs.length)∧∀ p,H p=none→Q (.ref p) (upd H p (.tup (rM xs lo hi)))
theorem Mv:SlR X (Qn X.K):=by
 intro pins s σ H x v vl vu lo hi sl Q I rx hs pl pu h
 obtain ⟨a,xs,rfl,hx,hw,q⟩:=h
 cases rx
 obtain ⟨its,r,ht,hz⟩:=I.tuple hx
 have hlen:its.toArray.size=xs.length:=by rw [List.size_toArray]; exact r.length.symm
 refine ⟨"tuple",_,PyProof.Rows.slot_tuple_getitem.lookup,ht.typeIs,?_⟩
 refine HT.jl ht hs pl pu (by rw [hlen]; exact hw) ?_ (by rw [hlen]; exact hz)
 rw [hlen]
 refine ⟨.ref s.heap.objs.size,_,I.laid (t':=s.toks) (o:=.tup (rM xs lo hi)) (fun b ob q=>Heap.get?_push_of_some _ q) (Nat.le_refl _) ?_,rfl,q _ (I.hok.fresh (Nat.le_refl _))⟩
 exact ⟨Nat.le_trans (lE xs lo hi) hz,_,(r.drop (HT.sIx xs.length 0 lo)).take (HT.sIx xs.length xs.length hi - HT.sIx xs.length 0 lo),IsTup.new _ _⟩
def Oz (K:PySem.W.Frag):R2:=fun x y H Q=>∃ a b xs ys,x=.ref a∧y=.ref b∧SqT K H a xs∧SqT K H b ys∧xs≠[]∧xs.length+ys.length≤sizeLine ∧
 (ys=[]→Q (.ref a) H)∧(ys≠[]→∀ p,H p=none→Q (.ref p) (upd H p (.tup (xs++ys))))
theorem Vals.nil_iff {xs:List V} {us:List Value} (r:Vals xs us):us=[]↔xs=[]:=by
 cases r with
 | nil=>simp
 | cons _ _=>simp
theorem xX:OpR X (binaryOp .Add) (Oz X.K):=by
 intro pins s σ H x y v u Q I rx ry h
 obtain ⟨a,b,xs,ys,rfl,rfl,ha,hb,hx,hz,q1,q2⟩:=h
 cases rx
 cases ry
 obtain ⟨its,r1,p1,_⟩:=I.tuple ha
 obtain ⟨its2,r2,p2,_⟩:=I.tuple hb
 refine HT.Il p1 p2 (fun z=>hx (r1.nil_iff.mp z)) (fun z=>⟨.ref a,H,I,rfl,q1 (r2.nil_iff.mp z)⟩) (fun z=>?_) (by rw [← r1.length,← r2.length]; exact hz)
 refine ⟨.ref s.heap.objs.size,_,I.laid (t':=s.toks) (o:=.tup (xs++ys)) (fun b ob q=>Heap.get?_push_of_some _ q) (Nat.le_refl _) ?_,rfl,q2 (fun w=>z (r2.nil_iff.mpr w)) _ (I.hok.fresh (Nat.le_refl _))⟩
 exact ⟨by rw [List.length_append]; exact hz,_,r1.append r2,IsTup.new _ _⟩
end
end L2
namespace L2
open PySem PySem.Spec PyProof.Rows
def ixN (n:Nat) (i:Int):Option Nat:=if 0≤i then (if i < n then some i.toNat else none) else if -(n:Int)≤i then some (i+n).toNat else none
def atI {α:Type} (xs:List α) (i:Int):Option α:=(ixN xs.length i).bind fun j=>xs[j]?
theorem JK {n:Nat} {i:Int} {j:Nat} (h:ixN n i=some j):seqIndex? i n=some j∧j < n∧-(n:Int)≤i∧i < n:=by
 unfold ixN at h
 by_cases h0:0≤i
 ·rw [if_pos h0] at h
  by_cases h1:i < n
  ·rw [if_pos h1] at h
   have e:i.toNat=j:=Option.some.inj h
   exact ⟨by rw [seqIndex_of h0 h1,e],by omega,by omega,h1⟩
  ·rw [if_neg h1] at h; cases h
 ·rw [if_neg h0] at h
  by_cases h1:-(n:Int)≤i
  ·rw [if_pos h1] at h
   have e:(i+n).toNat=j:=Option.some.inj h
   exact ⟨by rw [seqIndex_neg (by omega) h1,e],by omega,h1,by omega⟩
  ·rw [if_neg h1] at h; cases h
theorem sy {α:Type} {xs:List α} {i:Int} {v:α} (h:atI xs i=some v):∃ j,seqIndex? i xs.length=some j∧xs[j]?=some v∧j < xs.length∧-(xs.length:Int)≤i∧i < xs.length:=by
 unfold atI at h
 cases e:ixN xs.length i with
 | none=>rw [e] at h; cases h
 | some j =>
  rw [e] at h
  obtain ⟨h1,h2,h3,h4⟩:=JK e
  exact ⟨j,h1,h,h2,h3,h4⟩
theorem aW {α:Type} {xs:List α} {j:Nat} {v:α} (h:xs[j]?=some v):atI xs (j:Int)=some v:=by
 have hj:j < xs.length:=(List.getElem?_eq_some_iff.mp h).1
 have e:ixN xs.length (j:Int)=some j:=by
  unfold ixN
  rw [if_pos (by omega),if_pos (by omega)]; simp
 unfold atI; rw [e]; exact h
def JG (b:Expr):Prop:=∀ o i,subscripted b false o i=operate [o,i] (getItem o i)
def IxR (X:Cx) (r:R2):Prop :=
 ∀ (value slice:Expr) (pins:List (Addr × Obj)) (s:Shared) (σ:St) (H:Hp) (x y:V) (v u:Value) (Q:VK),Inv X pins σ H s→RelV x v→RelV y u→r x y H Q →
  subscripted slice false v u=operate [v,u] (getItem v u)→wpAny (model X.prog X.w) X.A (subscriptTail value slice v u) (EP X pins σ Q) X.xe s
def MtR (X:Cx) (id:String) (r:V→List V→Hp→VK→Prop):Prop :=
 ∀ (pins:List (Addr × Obj)) (s:Shared) (σ:St) (H:Hp) (x:V) (xs:List V) (v:Value) (us:List Value) (Q:VK),Inv X pins σ H s→RelV x v→Vals xs us→r x xs H Q →
  wpAny (model X.prog X.w) X.A (call (.builtin id) (v :: us)) (EP X pins σ Q) X.xe s
section
variable {X:Cx} {a b:Expr} {ta tb:TE} {pos:Pos}
theorem aY {r:R2} (hr:IxR X r) (ha:PE X a ta) (hb:PE X b tb) (hs:JG b):PE X (.Subscript a b pos) (tOp r ta tb):=by
 intro pins s σ H Q I h
 exact Subscript_ (N6 ha hb I h fun v u s2 x y H2 I2 rx ry q=>hr a b pins s2 σ H2 x y v u Q I2 rx ry q (hs _ _))
def PK (K:PySem.W.Frag):R2:=fun x y H Q=>∃ p xs i v,x=.ref p∧y=.int i∧SqL K H p xs∧atI xs i=some v∧Q v H
def PX (K:PySem.W.Frag):R2:=fun x y H Q=>∃ p xs i v,x=.ref p∧y=.int i∧SqT K H p xs∧atI xs i=some v∧Q v H
def Oi:R2:=fun x y H Q=>∃ z i c,x=.str z∧y=.int i∧z.length≤sizeLine∧atI z.cps.toList i=some c∧Q (.str ⟨#[c]⟩) H
theorem bQ:IxR X (PK X.K):=by
 intro value slice pins s σ H x y v u Q I rx ry h hs
 obtain ⟨p,xs,i,z,rfl,rfl,hq,he,q⟩:=h
 cases rx
 obtain ⟨t,rfl⟩:=ry
 obtain ⟨its,r,pl,hz⟩:=I.list hq
 obtain ⟨j,h1,h2,h3,h4,h5⟩:=sy he
 obtain ⟨w,ew,rw'⟩:=r.get h2
 have hl:=r.length
 have hn:=nM
 have fin:EP X pins σ Q w s:=⟨z,H,I,rw',q⟩
 by_cases h0:0≤i
 ·have hj:i.toNat=j:=by
   rw [seqIndex_of h0 h5] at h1
   exact Option.some.inj h1
  exact item_listR pl.isList h0 (by omega) (by rw [hj]; simpa using ew) fin hs
 ·have hj:(i+(its.toArray.size:Int)).toNat=j:=by
   rw [seqIndex_neg (by omega) h4] at h1
   rw [List.size_toArray,← hl]
   exact Option.some.inj h1
  exact subscriptTail_builtinR (x:=w) pl.isList.typeIs slot_list_getitem.lookup
   (wpAny_getItem_list_neg (Q:=fun r s'=>r=w∧EP X pins σ Q r s') pl.isList (by omega) (by rw [List.size_toArray] <;> omega) (by omega) (by rw [hj]; simpa using ew) ⟨rfl,fin⟩) hs
theorem bC:IxR X (PX X.K):=by
 intro value slice pins s σ H x y v u Q I rx ry h hs
 obtain ⟨p,xs,i,z,rfl,rfl,hq,he,q⟩:=h
 cases rx
 obtain ⟨t,rfl⟩:=ry
 obtain ⟨its,r,pl,hz⟩:=I.tuple hq
 obtain ⟨j,h1,h2,h3,h4,h5⟩:=sy he
 obtain ⟨w,ew,rw'⟩:=r.get h2
 have hl:=r.length
 have hn:=nM
 have fin:EP X pins σ Q w s:=⟨z,H,I,rw',q⟩
 exact subscriptTail_builtinR (x:=w) pl.typeIs slot_tuple_getitem.lookup
  (getItem_tuple (j:=j) (Q:=fun r s'=>r=w∧EP X pins σ Q r s') pl (by omega) (by omega) (by rw [List.size_toArray,← hl]; exact h1) (by simpa using ew) ⟨rfl,fin⟩) hs
theorem gU:IxR X Oi:=by
 intro value slice pins s σ H x y v u Q I rx ry h hs
 obtain ⟨z,i,c,rfl,rfl,hz,he,q⟩:=h
 obtain ⟨t,rfl⟩:=rx
 obtain ⟨t',rfl⟩:=ry
 obtain ⟨j,h1,h2,h3,h4,h5⟩:=sy he
 have hl:z.cps.toList.length=z.length:=by simp [Str.length]
 rw [hl] at h1 h4 h5
 have hn:=nM
 exact tail_any (typeIs_str s z t) slot_str_getitem.lookup (getItem_str (c:=c) (by
  have e1:decide (i < -(2 ^ 63:Int))=false:=decide_eq_false (by omega)
  have e2:decide (i ≥ 2 ^ 63)=false:=decide_eq_false (by omega)
  rw [e1,e2,Bool.or_false]) (by rw [h1]; simpa using h2) ⟨.str ⟨#[c]⟩,H,I.tok _,⟨_,rfl⟩,q⟩) hs
theorem rD (lo hi:Option Int) (n:Nat):(sliceBounds lo hi none n).1=((HT.sIx n 0 lo:Nat):Int)∧(sliceBounds lo hi none n).2.1=((HT.sIx n n hi:Nat):Int)∧(sliceBounds lo hi none n).2.2=1:=by
 refine ⟨?_,?_,rfl⟩
 ·cases lo with
  | none=>simp [sliceBounds,HT.sIx]
  | some i =>
   simp only [sliceBounds,HT.sIx,Option.getD_none,show (1:Int) > 0 by decide,if_true]
   by_cases h:i < 0
   ·simp only [h,if_true] <;> omega
   ·simp only [h,if_false] <;> omega
 ·cases hi with
  | none=>simp [sliceBounds,HT.sIx]
  | some i =>
   simp only [sliceBounds,HT.sIx,Option.getD_none,show (1:Int) > 0 by decide,if_true]
   by_cases h:i < 0
   ·simp only [h,if_true] <;> omega
   ·simp only [h,if_false] <;> omega
theorem pO (its:List Value) (lo hi:Option Int):slicePick its.toArray lo hi none=((its.drop (HT.sIx its.length 0 lo)).take (HT.sIx its.length its.length hi - HT.sIx its.length 0 lo)).toArray:=by
 obtain ⟨h1,h2,h3⟩:=rD lo hi its.toArray.size
 unfold slicePick
 rw [h1,h2,h3]
 simp only [sliceRange_one,pick_run,List.size_toArray] <;> rfl
def QM (K:PySem.W.Frag):V→Option Int→Option Int→Hp→VK→Prop:=fun x lo hi H Q=>∃ a xs,x=.ref a∧SqL K H a xs∧∀ p,H p=none→Q (.ref p) (upd H p (.lst (rM xs lo hi)))
theorem Hr:SlR X (QM X.K):=by
 intro pins s σ H x v vl vu lo hi sl Q I rx hs pl pu h
 obtain ⟨a,xs,rfl,hx,q⟩:=h
 cases rx
 obtain ⟨its,r,ht,hz⟩:=I.list hx
 have hlen:=r.length
 refine ⟨"list",_,slot_list_getitem.lookup,ht.isList.typeIs,?_⟩
 refine wpAny_getItem_list_slice ht.isList hs pl pu .none (by simp) ?_ (by rw [List.size_toArray] <;> omega)
 rw [pO,← hlen]
 refine ⟨.ref s.heap.objs.size,_,I.laid (t':=s.toks) (o:=.lst (rM xs lo hi)) (fun b ob q=>Heap.get?_push_of_some _ q) (Nat.le_refl _) ?_,rfl,q _ (I.hok.fresh (Nat.le_refl _))⟩
 exact ⟨Nat.le_trans (lE xs lo hi) hz,_,0,(r.drop (HT.sIx xs.length 0 lo)).take (HT.sIx xs.length xs.length hi - HT.sIx xs.length 0 lo),Heap.get?_push_size _ rfl⟩
def ig:V→Bool
 | .non=>true
 | .bl _=>true
 | .int _=>true
 | .str _=>true
 | _=>false
def eqV:V→V→Bool
 | .non,.non=>true
 | .bl a,.bl b=>a == b
 | .bl a,.int b=>(if a then 1 else 0) == b
 | .int a,.bl b=>a == (if b then 1 else 0)
 | .int a,.int b=>a == b
 | .str a,.str b=>a == b
 | _,_=>false
theorem Km {A:Around} {s:Shared} {y x:V} {u v:Value} (ry:RelV y u) (rx:RelV x v) (fy:ig y=true) (fx:ig x=true):SeqAt.EqAt A s u v (eqV y x):=by
 cases y with
 | non =>
  cases ry
  cases x with
  | non=>cases rx; exact SeqAt.EqAt.same _
  | bl b=>cases rx; exact SeqAt.EqAt.none_bool b
  | int b=>obtain ⟨t,rfl⟩:=rx; exact SeqAt.EqAt.none_int b t
  | str b=>obtain ⟨t,rfl⟩:=rx; exact SeqAt.EqAt.none_str b t
  | _=>exact absurd (show false=true from fx) Bool.false_ne_true
 | bl a =>
  cases ry
  cases x with
  | non=>cases rx; exact SeqAt.EqAt.bool_none a
  | bl b=>cases rx; exact SeqAt.EqAt.bool_bool a b
  | int b=>obtain ⟨t,rfl⟩:=rx; exact SeqAt.EqAt.bool_int a b t
  | str b=>obtain ⟨t,rfl⟩:=rx; exact SeqAt.EqAt.bool_str a b t
  | _=>exact absurd (show false=true from fx) Bool.false_ne_true
 | int a =>
  obtain ⟨t',rfl⟩:=ry
  cases x with
  | non=>cases rx; exact SeqAt.EqAt.int_none a t'
  | bl b=>cases rx; exact SeqAt.EqAt.int_bool a t' b
  | int b=>obtain ⟨t,rfl⟩:=rx; exact SeqAt.EqAt.int_int a t' b t
  | str b=>obtain ⟨t,rfl⟩:=rx; exact SeqAt.EqAt.int_str a t' b t
  | _=>exact absurd (show false=true from fx) Bool.false_ne_true
 | str a =>
  obtain ⟨t',rfl⟩:=ry
  cases x with
  | non=>cases rx; exact SeqAt.EqAt.str_none a t'
  | bl b=>cases rx; exact SeqAt.EqAt.str_bool a t' b
  | int b=>obtain ⟨t,rfl⟩:=rx; exact SeqAt.EqAt.str_int a t' b t
  | str b=>obtain ⟨t,rfl⟩:=rx; exact SeqAt.EqAt.str_str a t' b t
  | _=>exact absurd (show false=true from fx) Bool.false_ne_true
 | _=>exact absurd (show false=true from fy) Bool.false_ne_true
def eqU (x:V) (u:Value):Bool:=match u with
 | .none=>eqV .non x
 | .bool b=>eqV (.bl b) x
 | .int i _=>eqV (.int i) x
 | .str z _=>eqV (.str z) x
 | _=>false
theorem uM {x y:V} {u:Value} (r:RelV y u) (f:ig y=true):eqU x u=eqV y x:=by
 cases y with
 | non=>cases r; rfl
 | bl b=>cases r; rfl
 | int i=>obtain ⟨t,rfl⟩:=r; rfl
 | str z=>obtain ⟨t,rfl⟩:=r; rfl
 | _=>exact absurd (show false=true from f) Bool.false_ne_true
theorem tD {x:V}:∀ {xs:List V} {us:List Value},Vals xs us→xs.all ig=true→us.any (eqU x)=xs.any fun y=>eqV y x
 | _,_,.nil,_=>rfl
 | y :: xs,u :: us,.cons r t,f=>by
  rw [List.all_cons,Bool.and_eq_true] at f
  rw [List.any_cons,List.any_cons,uM r f.1,tD t f.2]
theorem iG {A:Around} {s:Shared} {x:V} {v:Value} (rx:RelV x v) (fx:ig x=true):∀ {xs:List V} {us:List Value},Vals xs us→xs.all ig=true→∀ u∈us,SeqAt.EqAt A s u v (eqU x u)
 | _,_,.nil,_=>fun u hu=>by cases hu
 | y :: xs,u :: us,.cons r t,f=>fun u' hu=>by
  rw [List.all_cons,Bool.and_eq_true] at f
  rcases List.mem_cons.mp hu with rfl | hu
  ·rw [uM r f.1]; exact Km r rx f.1 fx
  ·exact iG rx fx t f.2 u' hu
def inV (x:V) (xs:List V):Bool:=xs.any fun y=>eqV y x
def rIn (K:PySem.W.Frag) (neg:Bool):R2:=fun x y H Q=>∃ p xs,y=.ref p∧(SqL K H p xs∨SqT K H p xs)∧ig x=true∧xs.all ig=true∧Q (.bl (if neg then !inV x xs else inV x xs)) H
theorem Bg:OpR X (compareOp .In) (rIn X.K false):=by
 intro pins s σ H x y v u Q I rx ry h
 obtain ⟨p,xs,rfl,hq,fx,fs,q⟩:=h
 cases ry
 rcases hq with hq | hq
 ·obtain ⟨its,r,pl,hz⟩:=I.list hq
  refine SeqAt.in_listAt (eqU x) pl.isList (fun w hw=>iG rx fx r fs w (by simpa using hw)) ⟨.bl _,H,I,rfl,?_⟩
  rw [show its.toArray.any (eqU x)=its.any (eqU x) by simp,tD r fs]
  exact q
 ·obtain ⟨its,r,pl,hz⟩:=I.tuple hq
  refine SeqAt.in_tupleAt (eqU x) pl (fun w hw=>iG rx fx r fs w (by simpa using hw)) ⟨.bl _,H,I,rfl,?_⟩
  rw [show its.toArray.any (eqU x)=its.any (eqU x) by simp,tD r fs]
  exact q
theorem qz:OpR X (compareOp .NotIn) (fun x y H Q=>∃ i j,x=.str i∧y=.str j∧Q (.bl (!(!(Builtin.Str.occurrences j i 0 j.length 1).isEmpty))) H):=by
 intro pins s σ H x y v u Q I rx ry h
 obtain ⟨i,j,rfl,rfl,q⟩:=h
 obtain ⟨t,rfl⟩:=rx
 obtain ⟨t',rfl⟩:=ry
 exact notIn_str ⟨.bl _,H,I,rfl,q⟩
theorem cH:fQ X (.builtin "len") (fun xs H Q=>∃ p ys,xs=[.ref p]∧(SqL X.K H p ys∨SqT X.K H p ys)∧Q (.int ys.length) H):=by
 intro pins s σ H xs us Q I r h
 obtain ⟨p,ys,rfl,hq,q⟩:=h
 obtain ⟨u,rfl,rx⟩:=vals1 r
 cases rx
 have hn:=nM
 rcases hq with hq | hq
 ·obtain ⟨its,r',pl,hz⟩:=I.list hq
  have hlen:=r'.length
  exact Calls.call_len_list pl.isList (by simp only [List.size_toArray] <;> omega) ⟨.int ys.length,H,I.tok _,⟨s.toks+1,by rw [List.size_toArray,hlen]⟩,q⟩
 ·obtain ⟨its,r',pl,hz⟩:=I.tuple hq
  have hlen:=r'.length
  exact len_tuple pl (by simp only [List.size_toArray] <;> omega) ⟨.int ys.length,H,I.tok _,⟨s.toks+1,by rw [List.size_toArray,hlen]⟩,q⟩
theorem fZ:fQ X (.builtin "len") (fun xs H Q=>∃ z,xs=[.str z]∧z.length≤sizeLine∧Q (.int z.length) H):=by
 intro pins s σ H xs us Q I r h
 obtain ⟨z,rfl,hz,q⟩:=h
 obtain ⟨u,rfl,t,rfl⟩:=vals1 r
 have hn:=nM
 exact len_str (by omega) ⟨.int z.length,H,I.tok _,⟨_,rfl⟩,q⟩
theorem cY:fQ X (.type "list") (fun xs H Q=>∃ p ys,xs=[.ref p]∧(SqL X.K H p ys∨SqT X.K H p ys)∧∀ l,H l=none→Q (.ref l) (upd H l (.lst ys))):=by
 intro pins s σ H xs us Q I r h
 obtain ⟨p,ys,rfl,hq,q⟩:=h
 obtain ⟨u,rfl,rx⟩:=vals1 r
 cases rx
 have fin:∀ (its:List Value),Vals ys its→ys.length≤sizeLine→∀ (h':Heap) (c':Nat),(∀ b o',s.heap.get? b=some o'→h'.get? b=some o') →
   h'.get? s.heap.objs.size=some { cls:=.type "list",dict:=none,data:=.seq its.toArray c',slots:=#[] }→EP X pins σ Q (.ref s.heap.objs.size) { s with heap:=h' }:=fun its r' hz h' c' kp e =>
  ⟨.ref s.heap.objs.size,_,I.laid (t':=s.toks) kp (Nat.le_refl _) (show cF X.prog X.w _ h' _ (.lst ys) from ⟨hz,its,c',r',e⟩),rfl,q _ (I.hok.fresh (Nat.le_refl _))⟩
 rcases hq with hq | hq
 ·obtain ⟨its,r',pl,hz⟩:=I.list hq
  have hlen:=r'.length
  obtain ⟨o,ho,hc,n,hd⟩:=pl.isList
  exact call_list_seq p (.inl rfl) ho hc hd (fun h' c' kp e=>fin its r' hz h' c' kp e) (by simp only [List.size_toArray] <;> omega)
 ·obtain ⟨its,r',pl,hz⟩:=I.tuple hq
  have hlen:=r'.length
  obtain ⟨o,ho,hc,n,hd⟩:=pl
  exact call_list_seq p (.inr rfl) ho hc hd (fun h' c' kp e=>fin its r' hz h' c' kp e) (by simp only [List.size_toArray] <;> omega)
theorem aL:fQ X (.type "tuple") (fun xs H Q=>∃ p ys,xs=[.ref p]∧((SqL X.K H p ys∧∀ l,H l=none→Q (.ref l) (upd H l (.tup ys)))∨(SqT X.K H p ys∧Q (.ref p) H))):=by
 intro pins s σ H xs us Q I r h
 obtain ⟨p,ys,rfl,h⟩:=h
 obtain ⟨u,rfl,rx⟩:=vals1 r
 cases rx
 rcases h with ⟨hq,q⟩ | ⟨hq,q⟩
 ·obtain ⟨its,r',pl,hz⟩:=I.list hq
  have hlen:=r'.length
  refine call_tuple_list pl.isList (fun h' kp=>?_) (by simp only [List.size_toArray] <;> omega)
  have I1:Inv X pins σ H { s with heap:=h' }:=I.kept (t':=s.toks) kp
  have I2:Inv X pins σ (upd H h'.objs.size (.tup ys)) { s with heap:=h'.push { cls:=.type "tuple",data:=.seq its.toArray } } :=
   I1.laid (t':=s.toks) (fun b o e=>Heap.get?_push_of_some _ e) (Nat.le_refl _) (show cF X.prog X.w _ _ _ (.tup ys) from ⟨hz,its,r',IsTup.new _ _⟩)
  exact ⟨.ref h'.objs.size,_,I2,rfl,q _ (I1.hok.fresh (Nat.le_refl _))⟩
 ·obtain ⟨its,r',pl,hz⟩:=I.tuple hq
  exact call_tuple_same pl ⟨.ref p,H,I,rfl,q⟩
def tyV (K:PySem.W.Frag) (T:String) (x:V) (H:Hp):Prop:=match x with
 | .str _=>T = "str"
 | .int _=>T = "int"
 | .ref p=>(T = "list"∧∃ xs,SqL K H p xs)∨(T = "tuple"∧∃ o,K.lookup p=some o∧o.cls=.type "tuple"∧o.dict=none) ∨
   (T = "dict"∧((∃ kvs,H p=some (.dK kvs))∨∃ kvs,H p=some (.dT kvs)))∨(T = "set"∧∃ S n,H p=some (.set S n))
 | _=>False
theorem Gx {pins:List (Addr × Obj)} {σ:St} {H:Hp} {s:Shared} {T:String} {x:V} {v:Value} (I:Inv X pins σ H s) (r:RelV x v) (ty:tyV X.K T x H) :
  s.TypeIs v T∧∀ a,v=.ref a→∃ ob,s.heap.get? a=some ob∧ob.dict=none:=by
 cases x with
 | str z =>
  obtain ⟨t,rfl⟩:=r
  cases (show T = "str" from ty)
  exact ⟨typeIs_str s z t,fun _ e=>nomatch e⟩
 | int i =>
  obtain ⟨t,rfl⟩:=r
  cases (show T = "int" from ty)
  exact ⟨typeIs_int s i t,fun _ e=>nomatch e⟩
 | ref p =>
  cases r
  rcases ty with ⟨rfl,xs,hq⟩ | ⟨rfl,o,hk,hc,hd⟩ | ⟨rfl,hk⟩ | ⟨rfl,S,n,hk⟩
  ·obtain ⟨its,_,pl,_⟩:=I.list hq
   refine ⟨pl.isList.typeIs,fun a e=>?_⟩
   cases e
   obtain ⟨o,n,e,c,hd,_⟩:=pl
   exact ⟨o,e,hd⟩
  ·refine ⟨⟨o,I.kIn p o hk,hc⟩,fun a e=>?_⟩
   cases e
   exact ⟨o,I.kIn _ o hk,hd⟩
  ·have z:∃ o,s.heap.get? p=some o∧o.ExactDict:=by
    rcases hk with ⟨kvs,hk⟩ | ⟨kvs,hk⟩
    ·obtain ⟨_,_,_,_,o,_,_,e,ex,_⟩:=I.hok p _ hk
     exact ⟨o,e,ex⟩
    ·obtain ⟨_,_,_,_,o,_,_,e,ex,_⟩:=I.hok p _ hk
     exact ⟨o,e,ex⟩
   obtain ⟨o,e,ex⟩:=z
   refine ⟨⟨o,e,ex.1⟩,fun a e2=>?_⟩
   cases e2
   exact ⟨o,e,ex.2.1⟩
  ·obtain ⟨o,_,_,_,e,ex,_⟩:=I.hok p _ hk
   refine ⟨⟨o,e,ex.1⟩,fun a e2=>?_⟩
   cases e2
   exact ⟨o,e,ex.2.1⟩
 | _=>exact False.elim ty
def Ri (K:PySem.W.Frag) (T:String) (r:V→List V→Hp→VK→Prop) (to:TE):TE:=fun σ H Q=>to σ H fun x H1=>tyV K T x H1∧r x [] H1 Q
def tBM (K:PySem.W.Frag) (T:String) (r:V→List V→Hp→VK→Prop) (to:TE) (t:TA):TE:=fun σ H Q=>to σ H fun x H1=>tyV K T x H1∧t σ H1 fun xs H2=>r x xs H2 Q
variable {o e:Expr} {es:List Expr} {to:TE} {t:TA} {name:Str} {apos cpos:Pos} {T id:String} {r:V→List V→Hp→VK→Prop}
theorem K7 (pa:PlainAttrs T) (slot:Slot T name id) (hty:typeOf (.builtin id)=pure (.type "method_descriptor")) (hm:MtR X id r) (ho:PE X o to)
  (hbase:attributeBase o name X.env (eval o X.env)=eval o X.env:=by rfl) (hline:(apos.endLine == cpos.line)=true:=by rfl):PE X (.Call (.Attribute o name apos) [] [] cpos) (Ri X.K T r to):=by
 intro pins s σ H Q I h
 refine wpAny_Call_method0_late hbase hline (thn (ho pins s σ H _ I h) fun v s1 ⟨x,H1,I1,r1,ty,q1⟩=>?_)
 obtain ⟨h1,h2⟩:=Gx I1 r1 ty
 exact ⟨T,id,pa,slot,hty,h1,h2,Calls.callWith_builtin rfl (PySem.evalArgs_none (hm pins s1 σ H1 x [] v [] Q I1 r1 .nil q1))⟩
theorem gB (pa:PlainAttrs T) (slot:Slot T name id) (hty:typeOf (.builtin id)=pure (.type "method_descriptor")) (hm:MtR X id r) (ho:PE X o to) (ha:PA X (e :: es) t)
  (hbase:attributeBase o name X.env (eval o X.env)=eval o X.env:=by rfl)
  (hfew:((backTo cpos (starEach (e :: es) X.env)).all (fun x=>!x.1) && (backToKw cpos (keywordEach [] X.env)).all (fun x=>x.1.isSome)
   && decide ((e :: es).length+([]:List Keyword).length+(if ([]:List Keyword).isEmpty then 0 else 1) < 30))=true:=by rfl)
  (hline:(apos.endLine == cpos.line)=true:=by rfl) (hs:starEach (e :: es) X.env=(false,eval e X.env) :: starEach es X.env:=by rfl) (hplain:(backTo cpos (starEach es X.env)).any (·.1)=false:=by rfl) :
  PE X (.Call (.Attribute o name apos) (e :: es) [] cpos) (tBM X.K T r to t):=by
 intro pins s σ H Q I h
 refine wpAny_Call_method_late hbase hfew hline rfl (thn (ho pins s σ H _ I h) fun v s1 ⟨x,H1,I1,r1,ty,q1⟩=>?_)
 obtain ⟨h1,h2⟩:=Gx I1 r1 ty
 refine ⟨T,id,pa,slot,hty,h1,h2,?_⟩
 have hA:=ha cpos pins s1 σ H1 _ I1 q1
 rw [hs] at hA ⊢
 refine Calls.callWith_builtin (by show (false || (backTo cpos (starEach es X.env)).any (·.1))=false; rw [hplain] <;> rfl) (Calls.evalArgs_plain ?_)
 exact thn hA fun us s2 ⟨vs,H2,I2,r2,q2⟩=>hm pins s2 σ H2 x vs v us Q I2 r1 r2 q2
end
end L2
namespace L2
open PySem PySem.Spec PyProof.Rows
def MtM (X:Cx) (id:String) (r:V→List V→Hp→VK→Prop):Prop :=
 ∀ (pins:List (Addr × Obj)) (s:Shared) (σ:St) (H:Hp) (x:V) (xs:List V) (v:Value) (us:List Value) (Q:VK),Inv X pins σ H s→RelV x v→Vals xs us→r x xs H Q →
  wpAny (model X.prog X.w) X.A (call (.builtin id) (v :: us)) (EP X pins σ Q) X.xe s
theorem Vals.one:∀ {x:V} {us:List Value},Vals [x] us→∃ u,us=[u]∧RelV x u
 | _,_,.cons r .nil=>⟨_,rfl,r⟩
theorem Vals.two:∀ {x y:V} {us:List Value},Vals [x,y] us→∃ u v,us=[u,v]∧RelV x u∧RelV y v
 | _,_,_,.cons r (.cons q .nil)=>⟨_,_,rfl,r,q⟩
theorem Vals.zero:∀ {us:List Value},Vals [] us→us=[]
 | _,.nil=>rfl
theorem Vals.eraseIdx:∀ {xs:List V} {us:List Value} (i:Nat),Vals xs us→Vals (xs.eraseIdx i) (us.eraseIdx i)
 | _,_,_,.nil=>.nil
 | _,_,0,.cons _ t=>t
 | _,_,i+1,.cons r t=>.cons r (Vals.eraseIdx i t)
theorem Vals.reverse {xs:List V} {us:List Value} (h:Vals xs us):Vals xs.reverse us.reverse:=by
 induction h with
 | nil=>exact .nil
 | cons r t ih=>rw [List.reverse_cons,List.reverse_cons]; exact Vals.append ih (.cons r .nil)
theorem rA {α:Type}:∀ (l:List α) (i:Nat),(l.eraseIdx i).length≤l.length
 | [],_=>Nat.le_refl _
 | _ :: _,0=>Nat.le_succ _
 | _ :: r,i+1=>Nat.succ_le_succ (rA r i)
section
variable {X:Cx} {pins:List (Addr × Obj)} {σ:St} {H:Hp} {s:Shared} {l b:Addr} {xs ys zs:List V}
theorem Inv.lset {its its':List Value} {n:Nat} {f:Array Value→Array Value} {t':Nat} (I:Inv X pins σ H s) (hH:H l=some (.lst xs))
  (e:s.heap.get? l=some { cls:=.type "list",data:=.seq its.toArray n }) (hf:f its.toArray=its'.toArray) (hv:Vals ys its') (hz:ys.length≤sizeLine) :
  Inv X pins σ (upd H l (.lst ys)) { s with heap:=s.heap.update l (Obj.mapSeq f),toks:=t' }:=by
 have q:=PySem.IsL.update e f
 rw [hf] at q
 refine I.write (x:=l) (e:=l) (by rw [hH]; exact trivial) (.inl rfl) (fun b' u hb hu=>(Heap.get?_update_other s.heap (Obj.mapSeq f) (Ne.symm hb)).trans hu) ⟨_,q⟩ ?_
 exact ⟨hz,its',_,hv,q⟩
theorem Inv.lnew {its:List Value} {t':Nat} (I:Inv X pins σ H s) (hv:Vals ys its) (hz:ys.length≤sizeLine) :
  Inv X pins σ (upd H s.heap.objs.size (.lst ys)) { s with heap:=s.heap.push { cls:=.type "list",data:=.seq its.toArray },toks:=t' } :=
 I.laid (fun _ _ q=>Heap.get?_push_of_some _ q) (Nat.le_refl _) ⟨hz,its,0,hv,Heap.get?_push_size _ rfl⟩
theorem Inv.fresh (I:Inv X pins σ H s):H s.heap.objs.size=none:=I.hok.fresh (Nat.le_refl _)
theorem Inv.lstM (I:Inv X pins σ H s) (hH:H l=some (.lst xs)):xs.length≤sizeLine∧∃ (its:List Value) (n:Nat),Vals xs its∧xs.length=its.length∧s.heap.get? l=some { cls:=.type "list",data:=.seq its.toArray n }:=by
 obtain ⟨z,its,n,r,e⟩:=I.hok l _ hH
 exact ⟨z,its,n,r,r.length,e⟩
end
section
variable {X:Cx}
def Ih:V→List V→Hp→VK→Prop:=fun x vs H Q=>∃ l xs y,x=.ref l∧vs=[y]∧H l=some (.lst xs)∧xs.length < sizeLine∧Q .non (upd H l (.lst (xs++[y])))
theorem bN:MtM X "list.append" Ih:=by
 intro pins s σ H x vs v us Q I rx rv h
 obtain ⟨l,xs,y,rfl,rfl,hH,hz,q⟩:=h
 cases rx
 obtain ⟨u,rfl,ru⟩:=rv.one
 obtain ⟨z,its,n,r,hl,e⟩:=I.lstM hH
 refine call_meets F.slot_list_append ⟨_,e,rfl⟩ F.entry_list_append (F.args_list_append_2 _ _) (PySem.list_append l its.toArray n u (by rw [List.size_toArray]; omega)) ⟨e,?_⟩
 refine ⟨.non,_,I.lset (its':=its++[u]) hH e (by simp) (r.append (.cons ru .nil)) ?_,rfl,q⟩
 rw [List.length_append,List.length_singleton]
 omega
def Kf:V→List V→Hp→VK→Prop:=fun x vs H Q=>∃ l xs i k y,x=.ref l∧vs=[.int i]∧H l=some (.lst xs)∧-(2 ^ 63)≤i∧i < 2 ^ 63∧seqIndex? i xs.length=some k∧xs[k]?=some y∧Q y (upd H l (.lst (xs.eraseIdx k)))
theorem vD:MtM X "list.pop" Kf:=by
 intro pins s σ H x vs v us Q I rx rv h
 obtain ⟨l,xs,i,k,y,rfl,rfl,hH,h1,h2,hk,hy,q⟩:=h
 cases rx
 obtain ⟨u,rfl,ru⟩:=rv.one
 obtain ⟨t,rfl⟩:=ru
 obtain ⟨z,its,n,r,hl,e⟩:=I.lstM hH
 obtain ⟨w,hw,rw'⟩:=r.get hy
 refine call_meets F.slot_list_pop ⟨_,e,rfl⟩ F.entry_list_pop (F.args_list_pop_2 _ _)
  (MeetsSeq.list_pop_at l its.toArray n i t k w (fitsIndex_both h1 h2) (by rw [List.size_toArray,← hl]; exact hk) (by rw [← Array.getElem?_toList]; exact hw) (by rw [List.size_toArray]; omega)) ⟨e,?_⟩
 refine ⟨y,_,I.lset (its':=its.eraseIdx k) hH e ?_ (r.eraseIdx k) ?_,rw',q⟩
 ·show its.toArray.eraseIdxIfInBounds k=(its.eraseIdx k).toArray
  rw [List.eraseIdxIfInBounds_toArray]
 ·have:=rA xs k
  omega
def QX:R2:=fun x y H Q=>∃ l b xs zs,x=.ref l∧y=.ref b∧H l=some (.lst xs)∧H b=some (.lst zs)∧xs.length+zs.length≤sizeLine∧∀ p,H p=none→Q (.ref p) (upd H p (.lst (xs++zs)))
theorem lW:OpR X (binaryOp .Add) QX:=by
 intro pins s σ H x y v u Q I rx ry h
 obtain ⟨l,b,xs,zs,rfl,rfl,hH,hB,hz,q⟩:=h
 cases rx
 cases ry
 obtain ⟨z,its,n,r,hl,e⟩:=I.lstM hH
 obtain ⟨z2,its2,n2,r2,hl2,e2⟩:=I.lstM hB
 refine PySem.P.add_list e e2 ?_ (by rw [List.size_toArray,List.size_toArray]; omega)
 have ea:its.toArray++its2.toArray=(its++its2).toArray:=by simp
 rw [ea]
 exact ⟨.ref _,_,I.lnew (t':=s.toks) (r.append r2) (by rw [List.length_append]; omega),rfl,q _ I.fresh⟩
end
section
variable {prog:Program} {w:World} {A:Around} {E:Value→Shared→Prop} {s:Shared}
end
section
variable {X:Cx}
end
end L2
namespace Att
open PySem PySem.W PySem.Calls PyProof.Rows
theorem kJ {P:Params} {h:Heap}:∀ (ns:List Int) (vs:List Value),WellAll P h vs (ns.map WData.int)→IntsAre vs ns:=by
 intro ns
 induction ns with
 | nil =>
  intro vs w
  rw [List.map_nil] at w
  cases w
  exact .nil
 | cons n ns ih =>
  intro vs w
  rw [List.map_cons] at w
  cases w with
  | cons a b =>
   cases a
   exact .cons _ _ (ih _ b)
theorem Ak {l:OpenLaw} {n:Nat} (hn:l.most=some n) {P:Params} {h:Heap} {args:List WData} {vals:List Value}
  (hpre:l.row.toRowW.claim.pre args=true) (hwl:WellAll P h vals args) :
  ∃ a vs ns,vals=[Value.ref a]∧args=[WData.list (ns.map WData.int)]∧h.get? a=some { cls:=.type "list",data:=.seq vs.toArray }∧IntsAre vs ns∧ns.length≤n:=by
 have hsh:WShape.hasAll [] args [.list .int]=true:=(pre_splitW hpre).1
 have hc:l.pre.holds [] { args:=args }=true:=(pre_splitW hpre).2
 obtain ⟨d,r,rfl,h1,h2⟩:=hasAllW_cons hsh
 obtain rfl:=hasAllW_nil h2
 obtain ⟨xs,rfl,h3⟩:=hasW_list h1
 obtain ⟨ns,rfl⟩:=items_int h3
 have hlen:ns.length≤n:=by
  unfold OpenLaw.pre at hc
  have h4:(WTm.not (.lt (.lit (.int (n:Int))) (.len (.arg 0)))).holds [] { args:=[.list (ns.map .int)] }=true:=by
   have h4:=(holds_andW hc).1
   rw [hn] at h4
   exact h4
  have h5:=condW_of h4 (w_not (w_lt w_lit (w_len_list (w_arg rfl))))
  rw [List.length_map] at h5
  refine Nat.le_of_not_lt fun q=>?_
  have q':(n:Int) < ((ns.length:Nat):Int):=by omega
  first
   | (rw [decide_eq_true q'] at h5; exact absurd h5 (by decide))
   | (simp at h5; omega)
 cases hwl with
 | cons w1 w2 =>
  cases w2
  cases w1 with
  | list ho hall=>exact ⟨_,_,ns,rfl,rfl,ho,kJ ns _ hall,hlen⟩
theorem yR (l:OpenLaw) (args:List WData):l.row.toRowW.claim.post args (.bool true) args=true :=
 postW_of (r:=l.row.toRowW) (X:=(true == true))
  (show WShape.has [] (.bool true) .bool=true by first | rfl | decide | simp [WShape.has,WShape.arms,WShape.armsAll])
  (show (WTm.eq .res (.lit (.bool true))).value [] { args:=args,res:=some (.bool true),after:=args }=some (.bool (true == true)) from w_eq_bool (w_res rfl) w_lit) rfl
theorem tR {l:OpenLaw} {n:Nat} {q:Program} {loose:List Str} {XP:(Str→Option Value)→Heap→Prop} {YP:World→Heap→Prop} {d:DefRec}
  (hn:l.most=some n) (hdf:d.params.defaults=[])
  (call:∀ (w:World) (s₀ s₁:Shared) (mg mb:Str→Option Value) (fa:Addr) (o:Obj) (pm cd doc:Value) (a:Addr) (vs:List Value) (ns:List Int),
   Ground q loose [] XP w s₀ mg mb s₁.heap→YP w s₁.heap →
   s₁.heap.get? fa=some o→o.data=.func (docDef d.name d.params d.body d.scope pm cd doc)→s₁.heap.CodeRec cd d.name→mg d.name=some (.ref fa) →
   s₁.heap.get? a=some { cls:=.type "list",data:=.seq vs.toArray }→IntsAre vs ns→ns.length≤n→s₁.gens = #[] →
   codeAny (model l.prog w) callerA (.call (.ref fa) ⟨[.ref a],[]⟩) (fun r s'=>r=.ok (.ret (.bool true))∧OldK s₁.heap s'.heap∧s'.os=s₁.os∧AllBare s'.gens) s₁) :
  WalkO q loose XP YP l.row.toRowW d [] (fun f vs=>PySem.call f vs):=by
 intro w s₀ s₁ mg mb G Y fa o pm cd doc dV kV ho hd hcd hD hmg hg args vals as hpre hlay hrd hwl hlo
 obtain rfl:dV=.none:=Dflts.none hD hdf
 obtain rfl:kV=.none:=Dflts.noKw hD
 obtain ⟨a,vs,ns,rfl,rfl,hobj,hints,hlen⟩:=Ak hn hpre hwl
 refine enter_call (codeAny_mono (call w s₀ s₁ mg mb fa o pm cd doc a vs ns G Y ho (fd_plain hd) hcd hmg hobj hints hlen hg) fun r s' hq=>?_)
 obtain ⟨rfl,h2,h3,h4⟩:=hq
 exact ⟨.inl ⟨.bool true,.bool true,[],rfl,fun _=>rfl,.bool true,yR l _,fun _=>⟨List.Pairwise.nil,fun _ hm=>(nomatch hm)⟩⟩,h2,h3,h4⟩
section
variable {prog:Program} {w:World} {A:Around} {E:Value→Shared→Prop} {s:Shared} {K:Frag}
def ledger (h:Heap) (L d:Addr):List (Addr × Obj):=(List.range h.objs.size).filterMap fun a=>if a=L∨a=d then none else (h.get? a).map fun o=>(a,o)
end
end Att
namespace L2
open PySem PySem.Spec PyProof.Rows
theorem qJ:∀ {vs:List Value} {ns:List Int},IntsAre vs ns→Vals (ns.map V.int) vs
 | _,_,.nil=>.nil
 | _,_,.cons n t h=>.cons ⟨t,rfl⟩ (qJ h)
def Only (H:Hp):Prop:=∀ b,H b=none∨∃ o xs,H b=some (.frz o (.lst xs))
theorem DN {P:Program} {w:World} {K:PySem.W.Frag} {mg mb:Str→Option Value} {CX:CXT} {k:Nat} {fa a:Addr} {fd:FuncData} {x:Str} {sp:Sp} {s₁:Shared} {vs:List Value} {ns:List Int}
  (KX:K.In s₁.heap) (hns:s₁.heap.Ns mainGlobals mg) (hb:s₁.heap.Ns builtinsNs mb) (hbb:∀ x:Str,x ≠ "__name__"→mb x=bootBuiltins x) (hlim:s₁.heap.NoLimit) (hg:s₁.gens = #[])
  (ha:s₁.heap.get? a=some { cls:=.type "list",data:=.seq vs.toArray }) (hi:IntsAre vs ns) (hl:ns.length≤sizeLine) (hr:jf k callerA)
  (F:∀ base:Heap,K.In base→base.Ns mainGlobals mg→jQ P w K mg base CX k fa fd [x] sp) (hbind:∀ (s:Shared) (u:Value),BindsTo s fd ⟨[u],[]⟩ [(x,u)])
  (hsp:∀ H:Hp,Only H→SqL K H a (ns.map V.int)→sp [.ref a] H (fun v _=>v=.bl true) fun _ _ _=>False)
  (hCX:∀ H e s',CX [] H s₁ (fun _ _ _=>False) e s'→False) :
  codeAny (model P w) callerA (.call (.ref fa) ⟨[.ref a],[]⟩) (fun r s'=>r=.ok (.ret (.bool true))∧OldK s₁.heap s'.heap∧s'.os=s₁.os∧AllBare s'.gens) s₁:=by
 have rv:=qJ hi
 have lenV:=hi.length
 have core:∀ H:Hp,Only H→SqL K H a (ns.map V.int)→HOk P w H s₁.heap→(∀ b,H b≠none→b=a)→(H a≠none→K.lookup a=none) →
   codeAny (model P w) callerA (.call (.ref fa) ⟨[.ref a],[]⟩) (fun r s'=>r=.ok (.ret (.bool true))∧OldK s₁.heap s'.heap∧s'.os=s₁.os∧AllBare s'.gens) s₁:=by
  intro H hO hS hok hA hK
  have base_of:∀ {b:Addr} {o:Obj},s₁.heap.get? b=some o→H b=none→(Gb s₁.heap H).get? b=some o:=fun e n=>Fg e n
  have noA:∀ {b:Addr} {o:Obj} {es:Array DictEntry} {ep:Nat},s₁.heap.get? b=some o→o.data=.dict es ep→H b=none:=fun {b o es ep} e d=>by
   cases q:H b with
   | none=>rfl
   | some u =>
    have e':b=a:=hA b (by rw [q]; simp)
    subst e'
    rw [ha] at e; cases e
    have d':Data.seq vs.toArray _=Data.dict es ep:=d
    cases d'
  have nsK:∀ {b:Addr} {m:Str→Option Value},s₁.heap.Ns b m→(Gb s₁.heap H).Ns b m:=fun {b m} ⟨o,es,ep,e,d,r⟩=>⟨o,es,ep,base_of e (noA e d),d,r⟩
  have hKb:K.In (Gb s₁.heap H):=fun b o e=>base_of (KX b o e) (by
   cases q:H b with
   | none=>rfl
   | some u =>
    have e':b=a:=hA b (by rw [q]; simp)
    subst e'
    rw [hK (by rw [q]; simp)] at e; cases e)
  have hM:Mod K mg (Gb s₁.heap H):=⟨hKb,nsK hns,⟨mb,nsK hb,hbb⟩,let ⟨mc,h1,h2⟩:=hlim; ⟨mc,nsK h1,h2⟩⟩
  have e0:J1 P w K mg (Gb s₁.heap H) callerA [] s₁ H:=⟨rfl,hM,fun b o e=>JD e,Nat.le_of_eq (yX _ _),trivial,fun b hb=>absurd (show b∈([]:List Addr) from hb) (by simp),hok,.of_eq hg⟩
  refine codeAny_mono ((F _ hKb (nsK hns)).run callerA [] s₁ H ⟨[.ref a],[]⟩ [.ref a] [.ref a] _ _ hr e0 (hbind s₁ (.ref a)) (.cons rfl .nil) (hsp H hO hS)) fun r s' h=>?_
  cases r with
  | error e=>exact (hCX H e s' h).elim
  | ok fl =>
   cases fl with
   | next=>exact False.elim h
   | brk=>exact False.elim h
   | cont=>exact False.elim h
   | ret u =>
    obtain ⟨v,H',os,bare,un,hok',r',q⟩:=h
    have q':v=.bl true:=q
    subst q'
    obtain rfl:u=Value.bool true:=r'
    refine ⟨rfl,OldK.of_keep fun b o e=>?_,os,bare⟩
    cases q:H b with
    | none=>exact un.keep b o e q (by intro z; exact absurd (show b∈([]:List Addr) from z) (by simp)) (by simp)
    | some u =>
     rcases hO b with z | ⟨ob,xs,z⟩
     ·rw [q] at z; cases z
     ·have z2:=un.frzs b ob _ z
      obtain ⟨e1,_⟩:=hok b _ z
      obtain ⟨e2,_⟩:=hok' b _ z2
      rw [e] at e1; cases e1
      exact e2
 cases hk:K.lookup a with
 | some o =>
  have e:=KX a o hk
  rw [ha] at e
  cases e
  refine core (fun _=>none) (fun _=>.inl rfl) (.inr ⟨_,vs.toArray,_,hk,rfl,rfl,rfl,by rw [List.size_toArray,lenV]; exact hl,by simpa using rv⟩) (fun b u z=>by have z':(none:Option HO)=some u:=z; cases z') (fun b z=>absurd rfl z) fun z=>absurd rfl z
 | none =>
  refine core (fun b=>if b=a then some (.frz { cls:=.type "list",data:=.seq vs.toArray } (.lst (ns.map V.int))) else none) (fun b=>?_) (.inl (.inr ⟨{ cls:=.type "list",data:=.seq vs.toArray },if_pos rfl⟩)) (fun b u z=>?_) (fun b z=>?_) fun _=>hk
  ·by_cases hb:b=a
   ·exact .inr ⟨_,_,if_pos hb⟩
   ·exact .inl (if_neg hb)
  ·by_cases hb:b=a
   ·have z':=(if_pos hb).symm.trans z
    cases z'
    subst hb
    exact ⟨ha,by rw [List.length_map]; exact hl,vs,_,rv,ha⟩
   ·have z':=(if_neg hb).symm.trans z
    cases z'
  ·by_cases hb:b=a
   ·exact hb
   ·exact absurd (if_neg hb) z
end L2
namespace L2
open PySem PySem.Spec PyProof.Rows
abbrev KOf {K:PySem.W.Frag} {h:Heap} (_:K.In h):PySem.W.Frag:=K
theorem Jk {l:PySem.W.OpenLaw} {n k:Nat} {q:Program} {loose:List Str} {XP:(Str→Option Value)→Heap→Prop} {YP:World→Heap→Prop} {d:DefRec} {K:Params→PySem.W.Frag} {CX:World→CXT} {sp:World→Sp} {x:Str}
  (hn:l.most=some n) (hn2:n≤sizeLine) (hdf:d.params.defaults=[]) (hr:jf k callerA)
  (hY:∀ (w:World) (h:Heap),YP w h→(K w.params).In h)
  (F:∀ (w:World) (mg:Str→Option Value) (fa:Addr) (h:Heap),(K w.params).In h→h.Ns mainGlobals mg→mg d.name=some (.ref fa) →
   ∃ fd:FuncData,(∀ (s:Shared) (u:Value),BindsTo s fd ⟨[u],[]⟩ [(x,u)]) ∧
    ∀ base:Heap,(K w.params).In base→base.Ns mainGlobals mg→jQ l.prog w (K w.params) mg base (CX w) k fa fd [x] (sp w))
  (hsp:∀ (w:World) (H:Hp) (a:Addr) (ns:List Int),ns.length≤n→Only H→SqL (K w.params) H a (ns.map V.int)→sp w [.ref a] H (fun v _=>v=.bl true) fun _ _ _=>False)
  (hCX:∀ (w:World) (H:Hp) (s:Shared) (e:Value) (s':Shared),CX w [] H s (fun _ _ _=>False) e s'→False) :
  PySem.W.WalkO q loose XP YP l.row.toRowW d [] (fun f vs=>PySem.call f vs):=by
 refine Att.tR hn hdf fun w s₀ s₁ mg mb fa o pm cd doc a vs ns G Y ho hd hcd hmg hobj hints hlen hg=>?_
 have KX:=hY w _ Y
 obtain ⟨fd,hb,hF⟩:=F w mg fa _ KX G.T.g hmg
 exact DN KX G.T.g G.T.b G.T.builtins G.T.nolimit hg hobj hints (Nat.le_trans hlen hn2) hr hF hb (fun H hO hS=>hsp w H a ns hlen hO hS) fun H e s'=>hCX w H s₁ e s'
end L2
namespace L2
open PySem PySem.Spec PyProof.Rows
def gn (s:Stmt):Arguments:=match s with
 | .FunctionDef _ a _ _ _ _ _ _ _ _=>a
 | _=>{ posonlyargs:=[],args:=[],vararg:=none,kwonlyargs:=[],kw_defaults:=[],kwarg:=none,defaults:=[] }
def dN (s:Stmt):List Stmt:=match s with
 | .FunctionDef _ _ b _ _ _ _ _ _ _=>b
 | _=>[]
def aC (s:Stmt):Scope:=match s with
 | .FunctionDef _ _ _ _ _ _ sc _ _ _=>sc
 | _=>{ kind:=.function,names:=[],isGenerator:=false,isCoroutine:=false }
abbrev CX0:CXT:=fun _ _ _ _ _ _=>False
abbrev E0:XK:=fun _ _ _=>False
theorem Ls {X:Cx}:Passes CX0 X E0:=fun _ _ _ _ _ _ _ h=>h.elim
structure Fun (K:PySem.W.Frag) (x qual:Str) (st:Stmt) (f:Addr) (fd:FuncData):Prop where
 ex:∃ (oc:Value) (od:Option Addr) (kV doc pm:Value) (an:Option Addr) (cdv ct:Value) (osl:Array (Option Value)),
  fd=PySem.W.fnOf x qual (gn st) (dN st) (aC st) .none kV doc pm an cdv ct∧K.lookup f=some ⟨oc,od,.func fd,osl⟩∧PySem.W.codeIn K cdv qual=true
 kp:PySem.W.keepIn K (.ref f)=true
section
variable {P:Program} {w:World} {K:PySem.W.Frag} {mg:Str→Option Value} {base:Heap}
theorem Fun.ok {x qual:Str} {st:Stmt} {f:Addr} {fd:FuncData} {N ps:List Str} {k:Nat} {sp:Sp} (F:Fun K x qual st f fd) (S:aQ N ps (aC st)) (len:∀ vs H Q E,sp vs H Q E→vs.length=ps.length)
  (hbody:∀ (cdv:Value) (A:Around) (outer:List Env) (s:Shared) (H:Hp) (vs:List V) (Q:VK) (E:XK),jf k (A.deeper (envOfC qual (aC st) s.heap.objs.size f cdv))→sp vs H Q E →
   ∃ t,PSs (uy CX0 P w K mg base N qual (aC st) f cdv A outer s H E).nox (dN st) t∧t { nx:=fun _ H'=>Q .non H',rt:=Q } (start N vs) H):jQ P w K mg base CX0 (k+1) f fd ps sp:=by
 obtain ⟨oc,od,kV,doc,pm,an,cdv,ct,osl,rfl,lk,hcd⟩:=F.ex
 refine Nh lk hcd S len fun A outer s H vs Q E hr hsp=>?_
 obtain ⟨t,h,q⟩:=hbody cdv A outer s H vs Q E hr hsp
 exact ⟨t,h.nox,q⟩
theorem Fun.binds {x qual:Str} {st:Stmt} {f:Addr} {fd:FuncData} {ps:List Str} (F:Fun K x qual st f fd)
  (h:∀ (kV doc pm:Value) (an:Option Addr) (cdv ct:Value) (us:List Value),us.length=ps.length→bindArgs (PySem.W.fnOf x qual (gn st) (dN st) (aC st) .none kV doc pm an cdv ct) ⟨us,[]⟩=pure (ps.zip us)):Binds K fd ps []:=by
 obtain ⟨oc,od,kV,doc,pm,an,cdv,ct,osl,rfl,lk,hcd⟩:=F.ex
 exact .all (h kV doc pm an cdv ct)
theorem Gn {x qual:Str} {st:Stmt} {f:Addr} {oc:Value} {od an:Option Addr} {osl:Array (Option Value)} {kV doc pm cdv ct:Value} (l:K.lookup f=some ⟨oc,od,.func (PySem.W.fnOf x qual (gn st) (dN st) (aC st) .none kV doc pm an cdv ct),osl⟩)
  (c:PySem.W.codeIn K cdv qual=true) (k:PySem.W.keepIn K (.ref f)=true):Fun K x qual st f (PySem.W.fnOf x qual (gn st) (dN st) (aC st) .none kV doc pm an cdv ct):=⟨⟨oc,od,kV,doc,pm,an,cdv,ct,osl,rfl,l,c⟩,k⟩
end
theorem bL {A:Around} {k:Nat} (hr:jf k A):A.units+1 < cLine:=Nat.lt_of_le_of_lt (Nat.add_le_add_left (by decide:1≤64) _) hr.units
theorem aJ {n:Nat} (h:n≤1000):n < sizeLine:=Nat.lt_of_le_of_lt h (by decide)
section
variable {X:Cx}
theorem pv (i:Nat) {x:Str} {pos:Pos} (hN:X.N[i]?=some x:=by rfl) (hv:Vis X.env.scope x:=by first | exact Or.inl rfl | exact Or.inr (Or.inl rfl) | exact Or.inr (Or.inr rfl)) (hd:(x == ("__debug__" : Str))=false:=by decide)
  (hcd:(x == ("__classdict__" : Str))=false:=by decide):PE X (.Name x pos) (qU i):=KY hN hv hd hcd
end
theorem xQ {A B:Prop} (h:B):if false=true then A else B:=by
 rw [if_neg Bool.false_ne_true]
 exact h
theorem oX {A B:Prop} (h:A):if true=true then A else B:=by
 rw [if_pos rfl]
 exact h
theorem gR {c A B:Prop} [Decidable c] (h1:c→A) (h2:¬ c→B):if c then A else B:=by
 by_cases h:c
 ·rw [if_pos h]
  exact h1 h
 ·rw [if_neg h]
  exact h2 h
def Same (H H':Hp):Prop:=∀ b o,H b=some o→H' b=some o
theorem Same.refl (H:Hp):Same H H:=fun _ _ h=>h
theorem Same.trans {H H1 H2:Hp} (a:Same H H1) (b:Same H1 H2):Same H H2:=fun c o h=>b c o (a c o h)
theorem Same.free {H H':Hp} (e:Same H H') {l:Addr} (h:H' l=Option.none):H l=Option.none:=by
 cases q:H l with
 | none=>rfl
 | some o =>
  rw [e l o q] at h
  cases h
theorem Same.seq {K:PySem.W.Frag} {H H':Hp} {a:Addr} {xs:List V} (e:Same H H') (h:SqL K H a xs):SqL K H' a xs:=by
 rcases h with (h | ⟨o,h⟩) | h
 ·exact .inl (.inl (e _ _ h))
 ·exact .inl (.inr ⟨o,e _ _ h⟩)
 ·exact .inr h
end L2
set_option maxHeartbeats 4000000
namespace L2
open PySem PySem.Spec PyProof.Rows
theorem gD {env:Env}:∀ (names:List (Str × NameKind)) (acc:List (Str × Addr)),(∀ y∈names,y.2=.free→∃ c,env.cells.lookup y.1=some c) →
  ∃ cl,(forIn names acc (fun (x:Str × NameKind) (cs:List (Str × Addr))=>(if x.2 == .free then (do let c ← cellOf env x.1; pure (ForInStep.yield ((x.1,c) :: cs))) else pure (ForInStep.yield cs):Sem (ForInStep (List (Str × Addr))))))=pure cl ∧
   (∀ y∈names,y.2=.free→∃ c,cl.lookup y.1=some c)∧(∀ y c,acc.lookup y=some c→∃ d,cl.lookup y=some d)∧(∀ y c,cl.lookup y=some c→env.cells.lookup y=some c∨acc.lookup y=some c)
 | [],acc,_=>⟨acc,rfl,(fun _ h=>nomatch h),(fun y c h=>⟨c,h⟩),(fun y c h=>.inr h)⟩
 | (n,k) :: r,acc,h=>by
  rw [List.forIn_cons]
  by_cases hk:k=.free
  ·subst hk
   obtain ⟨c,hc⟩:=h (n,.free) List.mem_cons_self rfl
   obtain ⟨cl,e,h1,h2,h3⟩:=gD r ((n,c) :: acc) fun y hy=>h y (List.mem_cons_of_mem _ hy)
   refine ⟨cl,?_,?_,?_,?_⟩
   ·have e0:cellOf env n=pure c:=by unfold cellOf; rw [hc]
    simp only [beq_self_eq_true,if_true,e0,pure_bind]
    exact e
   ·intro y hy hf
    rcases List.mem_cons.mp hy with rfl | hy
    ·exact h2 n c (by simp)
    ·exact h1 y hy hf
   ·intro y d hd
    by_cases e1:y=n
    ·subst e1; exact h2 y c (by simp)
    ·exact h2 y d (by rw [List.lookup_cons,beq_eq_false_iff_ne.mpr e1]; exact hd)
   ·intro y d hd
    rcases h3 y d hd with q | q
    ·exact .inl q
    ·by_cases e1:y=n
     ·subst e1
      simp at q
      exact .inl (by rw [← q]; exact hc)
     ·rw [List.lookup_cons,beq_eq_false_iff_ne.mpr e1] at q
      exact .inr q
  ·have hb:(k == NameKind.free)=false:=by simpa using hk
   obtain ⟨cl,e,h1,h2,h3⟩:=gD r acc fun y hy=>h y (List.mem_cons_of_mem _ hy)
   refine ⟨cl,?_,?_,h2,h3⟩
   ·simp only [hb,Bool.false_eq_true,if_false,pure_bind]
    exact e
   ·intro y hy hf
    rcases List.mem_cons.mp hy with rfl | hy
    ·exact absurd hf hk
    ·exact h1 y hy hf
theorem m7 {scope:Scope} {env:Env} (h:∀ y∈scope.names,y.2=.free→∃ c,env.cells.lookup y.1=some c) :
  ∃ cl,closureFor scope env=pure cl∧(∀ y∈scope.names,y.2=.free→∃ c,cl.lookup y.1=some c)∧∀ y c,cl.lookup y=some c→env.cells.lookup y=some c:=by
 obtain ⟨cl,e,h1,_,h3⟩:=gD scope.names [] h
 refine ⟨cl,?_,h1,fun y c q=>(h3 y c q).elim id fun z=>by simp at z⟩
 rw [← e]
 unfold closureFor
 simp only [bind_pure]
theorem jG {env:Env}:∀ {names:List (Str × NameKind)} {x:Str},names.lookup x=some .free →
  (names.map fun (n,k)=>if (k == NameKind.free && env.scope.kind == .function && env.kindOf n == some .cell) then (n,NameKind.cell) else (n,k)).lookup x=some .cell ∨
  (names.map fun (n,k)=>if (k == NameKind.free && env.scope.kind == .function && env.kindOf n == some .cell) then (n,NameKind.cell) else (n,k)).lookup x=some .free
 | [],_,h=>by simp at h
 | (n,k) :: r,x,h=>by
  have ih:=@jG env r x
  rw [List.map_cons]
  cases hx:x == n with
  | true =>
   simp only [List.lookup_cons,hx] at h
   cases h
   by_cases hc:(NameKind.free == NameKind.free && env.scope.kind == .function && env.kindOf n == some .cell)=true
   ·left; simp only [if_pos hc,List.lookup_cons,hx]
   ·right; simp only [if_neg hc,List.lookup_cons,hx]
  | false =>
   simp only [List.lookup_cons,hx] at h
   by_cases hc:(k == NameKind.free && env.scope.kind == .function && env.kindOf n == some .cell)=true
   ·simp only [if_pos hc,List.lookup_cons,hx]; exact ih h
   ·simp only [if_neg hc,List.lookup_cons,hx]; exact ih h
theorem iy {env:Env}:∀ {names:List (Str × NameKind)} {x:Str} {k':NameKind},
  (names.map fun (n,k)=>if (k == NameKind.free && env.scope.kind == .function && env.kindOf n == some .cell) then (n,NameKind.cell) else (n,k)).lookup x=some k'→(k'=.cell∨k'=.free) →
  ∃ k,(x,k)∈names∧(k=.cell∨k=.free)
 | [],_,_,h,_=>by simp at h
 | (n,k) :: r,x,k',h,hk=>by
  have ih:=@iy env r x k'
  rw [List.map_cons] at h
  cases hx:x == n with
  | true =>
   have e:x=n:=by simpa using hx
   subst e
   by_cases hc:(k == NameKind.free && env.scope.kind == .function && env.kindOf x == some .cell)=true
   ·refine ⟨k,List.mem_cons_self,.inr ?_⟩
    simp only [Bool.and_eq_true,beq_iff_eq] at hc
    exact hc.1.1
   ·simp only [if_neg hc,List.lookup_cons,beq_self_eq_true] at h
    cases h
    exact ⟨k,List.mem_cons_self,hk⟩
  | false =>
   have h':(r.map fun (n,k)=>if (k == NameKind.free && env.scope.kind == .function && env.kindOf n == some .cell) then (n,NameKind.cell) else (n,k)).lookup x=some k':=by
    by_cases hc:(k == NameKind.free && env.scope.kind == .function && env.kindOf n == some .cell)=true
    ·simpa only [if_pos hc,List.lookup_cons,hx] using h
    ·simpa only [if_neg hc,List.lookup_cons,hx] using h
   obtain ⟨q,m,z⟩:=ih h' hk
   exact ⟨q,List.mem_cons_of_mem _ m,z⟩
abbrev cu (X:Cx) (scope:Scope) (N:List Str) (cl:List (Str × Addr)) (C:Addr) (s:Shared) (H:Hp) (ex:List Addr) (pn:List (Addr × Obj)) (E:Value→Shared→Prop):Cx :=
 { X with N:=N,s₀:=s,H₀:=H,env:=compEnvC scope cl C X.env,outer:=X.stack,stack:=X.stack,ex:=ex,fn:=fun _=>false,pn:=pn,xe:=E }
theorem vX {X:Cx} {pins:List (Addr × Obj)} {σ σ':St} {H:Hp} {s:Shared} {scope:Scope} {N:List Str} {cl:List (Str × Addr)} {fp:List Addr} {E:Value→Shared→Prop} {h1:Heap} {t:Nat}
  (I:Inv X pins σ H s) (hkind:scope.kind=.function) (hcell:∀ y∈scope.names,y.2≠.cell) (hfree:∀ y∈scope.names,y.2=.free→X.env.kindOf y.1=some .cell∨X.env.kindOf y.1=some .free)
  (hcl1:∀ y∈scope.names,y.2=.free→∃ c,cl.lookup y.1=some c) (hcl2:∀ y c,cl.lookup y=some c→X.env.cells.lookup y=some c)
  (hf:∀ b∈fp,BX X pins H b) (hfo:∀ b∈fp,∃ o,s.heap.get? b=some o)
  (hl:σ'.length=N.length) (hσ:∀ (i:Nat) (x:Str) (v:V),N[i]?=some x→σ'[i]?=some (some v)→scope.names.lookup x=some .free∧∃ j:Nat,X.N[j]?=some x∧σ[j]?=some (some v))
  (hns:h1.Ns s.heap.objs.size (fun _=>none)) (hold:∀ b o,s.heap.get? b=some o→h1.get? b=some o) :
  Inv (cu X scope N cl s.heap.objs.size s H fp (X.pn++pins) E) [] σ' H { s with heap:=h1,toks:=t }:=by
 have szc:∀ b o,s.heap.get? b=some o→b≠s.heap.objs.size:=fun b o e=>Nat.ne_of_lt (Heap.lt_size e)
 have okY:(cu X scope N cl s.heap.objs.size s H fp (X.pn++pins) E).Ok:=by
  refine ⟨I.ok.mod,hkind,I.ok.glob,I.ok.blt,Nat.le_refl _,fun x y c e1 e2=>I.ok.inj x y c (hcl2 _ _ e1) (hcl2 _ _ e2),fun x hx=>?_,fun x c hfn _=>?_,I.ok.hd,I.ok.frames,.inl rfl,fun b hb=>⟨?_,fun x c e z=>?_⟩,I.bs,Nat.le_trans I.ok.bsz I.sz,fun b o e hb=>?_,fun b hb z=>?_,I.stack,I.stkFree⟩
  ·have hx':(relabel scope X.env).names.lookup x=some .cell∨(relabel scope X.env).names.lookup x=some .free:=hx
   have q:∃ k,(x,k)∈scope.names∧(k=.cell∨k=.free):=by
    rcases hx' with z | z
    ·exact iy z (.inl rfl)
    ·exact iy z (.inr rfl)
   obtain ⟨k,hm,hk⟩:=q
   rcases hk with rfl | rfl
   ·exact absurd rfl (hcell _ hm)
   ·exact hcl1 _ hm rfl
  ·exact absurd (show false=true from hfn) (by decide)
  ·obtain ⟨o,e⟩:=hfo b hb
   exact szc b o e
  ·exact (hf b hb).2.2.2.2.1 x c (hcl2 _ _ e) z
  ·rcases (hf b hb).2.2.2.1 with z | z
   ·exact I.ok.noex b o e z
   ·exact absurd (Nat.lt_of_lt_of_le (Heap.lt_size e) (Nat.le_trans I.ok.bsz z)) (Nat.lt_irrefl _)
  ·rcases List.mem_cons.mp (I.stkSub b z) with q | q
   ·exact (hf b hb).2.1 q
   ·exact (hf b hb).2.2.1 q
 obtain ⟨m,hn,hlook⟩:=id I.loc
 refine ⟨okY,rfl,I.bare,Un.kept hold,⟨_,hns,fun i x v e1 e2 _=>?_⟩,fun x c e=>?_,I.hok.fresh (Nat.le_refl _),fun x c e=>I.freeC x c (hcl2 _ _ e),fun p hp=>?_,I.hok.kept hold,hl⟩
 ·obtain ⟨hfr,j,ej,es⟩:=hσ i x v e1 e2
  have hm:(x,NameKind.free)∈scope.names:=PySem.mem_of_lookup hfr
  have hk:=hfree _ hm rfl
  have hv:Vis X.env.scope x:=by
   rcases hk with z | z
   ·exact .inr (.inl z)
   ·exact .inr (.inr z)
  obtain ⟨u,r,l⟩:=hlook j x v ej es hv
  refine ⟨u,r,.inr ⟨?_,?_⟩⟩
  ·exact jG hfr
  ·rcases l with ⟨k,_⟩ | ⟨_,c,ec,hc⟩
   ·rcases hk with z | z <;> (rw [k] at z; cases z)
   ·obtain ⟨d,hd⟩:=hcl1 _ hm rfl
    have e:=hcl2 _ _ hd
    have ec':X.env.cells.lookup x=some d:=e
    rw [ec] at ec'; cases ec'
    obtain ⟨o,ho,hod⟩:=hc
    exact ⟨c,hd,o,hold c o ho,hod⟩
 ·obtain ⟨v,o,ho,hod⟩:=I.cell x c (hcl2 _ _ e)
  exact ⟨v,o,hold c o ho,hod⟩
 ·have hp':p∈X.pn++pins:=by simpa using hp
  obtain ⟨a1,a2,a3,a4,a5⟩:=I.pin p hp'
  refine ⟨hold _ _ a1,a2,szc _ _ a1,fun z=>?_,a5⟩
  rcases List.mem_cons.mp (I.stkSub _ z) with q | q
  ·exact a3 q
  ·exact a4 q
def JN (X:Cx) (ifs:List Expr) (t:TT):Prop :=
 ∀ (pins:List (Addr × Obj)) (s:Shared) (σ:St) (H:Hp) (Q:Bool→Hp→Prop),Inv X pins σ H s→t σ H Q →
  wpAny (model X.prog X.w) X.A (forIn ifs true fun c r=>if r=true then do let ok ← isTrue c X.env (eval c X.env); pure (ForInStep.yield ok) else pure (ForInStep.yield r)) (TP X pins σ Q) X.xe s
def Qf:TT:=fun _ H Q=>Q true H
theorem cD {X:Cx}:JN X [] Qf:=fun _ _ _ H _ I h=>wpAny_tests_nil ⟨H,I,h⟩
theorem u6 {X:Cx} {c:Expr} {t:TT} (h:PT X c t):JN X [c] t:=fun pins s σ H Q I hw=>wpAny_tests_one (h pins s σ H Q I hw)
section
variable {prog:Program} {w:World} {A:Around} {R:Result→Shared→Prop} {s:Shared}
theorem dz {elt target iter:Expr} {ifs:List Expr} {scope:Scope} {pos:Pos} {it acc:Value} {env:Env} (I:Nat→Shared→Prop)
  (turn:∀ n s,I n s→wpAny (model prog w) A (pyNext it) (fun r s₁=>match r with
   | none=>R (.ok .next) s₁
   | some v=>wpAny (model prog w) A (letOwnedTupleGo target it v) (fun _ s₁'=>wpAny (model prog w) A (assign target env v) (fun _ s₂ =>
     wpAny (model prog w) A (forIn ifs true fun c r=>if r=true then do let ok ← isTrue c env (eval c env); pure (ForInStep.yield ok) else pure (ForInStep.yield r)) (fun ok s₃ =>
      if ok=true then wpAny (model prog w) A (eval elt env) (fun x s₄ =>
       wpAny (model prog w) A (call (.builtin "list.append") [acc,x]) (fun _ s₅=>∃ m,m < n∧I m s₅) (notedBy (model prog w) A env fun e s'=>R (.error e) s') s₄) (notedBy (model prog w) A env fun e s'=>R (.error e) s') s₃
      else ∃ m,m < n∧I m s₃) (notedBy (model prog w) A env fun e s'=>R (.error e) s') s₂) (notedBy (model prog w) A env fun e s'=>R (.error e) s') s₁') (notedBy (model prog w) A env fun e s'=>R (.error e) s') s₁)
    (notedBy (model prog w) A env fun e s'=>R (.error e) s') s)
  (n:Nat) (h:I n s) :
  codeAny (model prog w) A (.compLoop (.ListComp elt [⟨target,iter,ifs,0⟩] scope pos) 0 it acc env) R s:=by
 refine codeAny_loop rfl I (fun n s hI=>?_) n h
 show wpAny _ A ((compTurn (.ListComp elt [⟨target,iter,ifs,0⟩] scope pos) 0 it acc env).onRaise (fun x=>do noteFrame x env; theTreesLotGoes x)) _ _ s
 refine wpAny_noted ?_
 rw [compTurn_list]
 refine wpAny_bind (wpAny_standAt (wpAny_bind (wpAny_mono (turn n s hI) (fun r s₁ h₁=>?_) fun _ _ h'=>h')))
 cases r with
 | none=>exact wpAny_pure h₁
 | some v =>
  refine wpAny_bind (wpAny_mono h₁ (fun _ s₁' h₁'=>?_) fun _ _ h'=>h')
  refine wpAny_bind (wpAny_mono h₁' (fun _ s₂ h₂=>wpAny_bind (wpAny_mono h₂ (fun ok s₃ h₃=>?_) fun _ _ h'=>h')) fun _ _ h'=>h')
  cases ok with
  | false=>exact wpAny_pure ⟨rfl,h₃⟩
  | true =>
   exact wpAny_bind (wpAny_bind (wpAny_mono h₃ (fun x s₄ h₄=>wpAny_bind (wpAny_mono h₄ (fun _ s₅ h₅=>wpAny_pure (wpAny_pure ⟨rfl,h₅⟩)) fun _ _ h'=>h')) fun _ _ h'=>h'))
end
def FZ (wi:TI) (g:TG) (tc:TT) (te:TE) (lift:St→St):TE:=fun σ H Q=>wi σ H fun J H1=>∀ l,H1 l=none→∃ W:Nat→Nat→St→Hp→Prop,(∃ m,W 0 m (lift σ) (upd H1 l (.lst [])))∧∀ i m σ H,W i m σ H →
 (J.stop i H∧Q (.ref l) H)∨(J.go i H∧∃ N:St→Hp→Prop,(∀ σ' H',N σ' H'→∃ m',m' < m∧W (i+1) m' σ' H') ∧
  ∀ x H',J.yld i H x H'→g x σ H' fun σ2 H2=>tc σ2 H2 fun b H3=>if b=true then te σ2 H3 fun v H4=>∃ ys,H4 l=some (.lst ys)∧ys.length < sizeLine∧N σ2 (upd H4 l (.lst (ys++[v]))) else N σ2 H3)
theorem Hg {X:Cx} {elt tg iter:Expr} {ifs:List Expr} {scope:Scope} {pos:Pos} {wi:TI} {g:TG} {tc:TT} {te:TE} (N:List Str) (lift:St→St) (hc:X.calm=true) (hi:PI X tg iter wi)
  (hkind:scope.kind=.function) (hcell:∀ y∈scope.names,y.2≠.cell) (hfree:∀ y∈scope.names,y.2=.free→X.env.kindOf y.1=some .cell∨X.env.kindOf y.1=some .free)
  (hnames:∀ y∈scope.names,y.2=.local→scope.names.lookup y.1=some .local)
  (hlen:∀ σ:St,σ.length=X.N.length→(lift σ).length=N.length)
  (hσ:∀ (σ:St) (i:Nat) (x:Str) (v:V),σ.length=X.N.length→N[i]?=some x→(lift σ)[i]?=some (some v)→scope.names.lookup x=some .free∧∃ j:Nat,X.N[j]?=some x∧σ[j]?=some (some v))
  (hg:∀ cl C s H ex pn E,PG (cu X scope N cl C s H ex pn E) tg g) (ht:∀ cl C s H ex pn E,JN (cu X scope N cl C s H ex pn E) ifs tc) (he:∀ cl C s H ex pn E,PE (cu X scope N cl C s H ex pn E) elt te)
  (hs:∀ x,foldedSetIterable iter X.env x=pure x:=by intro _; rfl) :
  PE X (.ListComp elt [⟨tg,iter,ifs,0⟩] scope pos) (FZ wi g tc te lift):=by
 intro pins s σ H Q I h
 rw [eval_ListComp]
 obtain ⟨cl,hclos,hcl1,hcl2⟩:=m7 (scope:=scope) (env:=X.env) fun y hy hf=>I.ok.has y.1 (hfree y hy hf)
 refine wpAny_comprehension_free (use:=none) rfl hs hclos hkind hnames (thn (hi pins s σ H _ I h) fun v s1 h1=>thn h1 fun itv s2 h2=>?_)
 obtain ⟨it,fp,tn,J,H2,e,I2,T,st2,f2,q⟩:=h2
 subst e
 refine wpAny_newObj_type (wpAny_newFunctionEnv hcell (by intro y hy; simp at hy) (fun h₁ hns₁ hsb₁=>?_) hkind)
 have I3:Inv X pins σ (upd H2 s2.heap.objs.size (.lst [])) { s2 with heap:=s2.heap.push { cls:=.type "list",data:=.seq ([]:List Value).toArray } }:=I2.lnew (its:=[]) (t':=s2.toks) .nil (Nat.zero_le _)
 have fr:H2 s2.heap.objs.size=none:=I2.fresh
 have hold:∀ b o,(s2.heap.push { cls:=.type "list",data:=.seq ([]:List Value).toArray }).get? b=some o→h₁.get? b=some o:=fun b o e=>hsb₁.extBut b o (Nat.ne_of_lt (Heap.lt_size e)) (Heap.get?_push_of_some _ e)
 have f3:∀ b∈fp,BX X pins (upd H2 s2.heap.objs.size (.lst [])) b:=fun b hb=>by
  obtain ⟨o,eo,_⟩:=T.obj 0 _ st2 b hb
  exact ⟨by rw [aF (Nat.ne_of_lt (Heap.lt_size eo))]; exact (f2 b hb).1,(f2 b hb).2⟩
 have fo:∀ b∈fp,∃ o,(s2.heap.push { cls:=.type "list",data:=.seq ([]:List Value).toArray }).get? b=some o:=fun b hb=>by
  obtain ⟨o,eo,_⟩:=T.obj 0 _ st2 b hb
  exact ⟨o,Heap.get?_push_of_some _ eo⟩
 generalize hP:s2.heap.push { cls:=.type "list",data:=.seq ([]:List Value).toArray }=P at *
 obtain ⟨W,⟨m0,w0⟩,turn⟩:=q s2.heap.objs.size fr
 generalize hL:s2.heap.objs.size=L at *
 let R:Result→Shared→Prop:=compPost (model X.prog X.w) X.A X.xe none (EP X pins σ Q) (.ref L) P.objs.size
 let Y:Cx:=cu X scope N cl P.objs.size { s2 with heap:=P } (upd H2 L (.lst [])) fp (X.pn++pins) (notedBy (model X.prog X.w) X.A (compEnvC scope cl P.objs.size X.env) fun e s'=>R (.error e) s')
 have IY:Inv Y [] (lift σ) (upd H2 L (.lst [])) { s2 with heap:=h₁,toks:=s2.toks+([]:List (Str × Value)).length } :=
  vX (s:={ s2 with heap:=P }) I3 hkind hcell hfree hcl1 hcl2 f3 fo (hlen σ I.len) (fun i x v=>hσ σ i x v I.len) hns₁ hold
 have stY:tn 0 h₁:=T.keep _ _ _ st2 fun b hb o e=>hold b o (by rw [← hP]; exact Heap.get?_push_of_some _ e)
 have fC:∀ b∈fp,b≠P.objs.size∧(b∈fp):=fun b hb=>by
  obtain ⟨o,eo⟩:=fo b hb
  exact ⟨Nat.ne_of_lt (Heap.lt_size eo),hb⟩
 have fpY:∀ {H':Hp},(∀ b∈fp,H' b=none)→∀ b∈fp,BX Y [] H' b:=fun {H'} hn b hb=>by
  refine ⟨hn b hb,(fC b hb).1,fun z=>?_,.inl hb,fun x c ex=>(f3 b hb).2.2.2.2.1 x c (hcl2 _ _ ex),fun p hp=>?_⟩
  ·rcases List.mem_cons.mp (I3.stkSub b z) with y | y
   ·exact (f3 b hb).2.1 y
   ·exact (f3 b hb).2.2.1 y
  ·have hp':p∈(X.pn++pins)++[]:=hp
   rw [List.append_nil] at hp'
   exact (f3 b hb).2.2.2.2.2 p hp'
 have loop:∀ s4:Shared,s4={ s2 with heap:=h₁,toks:=s2.toks+([]:List (Str × Value)).length } →
   codeAny (model X.prog X.w) X.A (.compLoop (.ListComp elt [⟨tg,iter,ifs,0⟩] scope pos) 0 (.ref it) (.ref L) (compEnvC scope cl P.objs.size X.env)) R s4:=by
  rintro s4 rfl
  refine dz (fun n s'=>∃ i σ' H',Inv Y [] σ' H' s'∧tn i s'.heap∧(∀ b∈fp,H' b=none)∧W i n σ' H') ?_ m0 ⟨0,_,_,IY,stY,fun b hb=>(f3 b hb).1,w0⟩
  rintro n s5 ⟨i,σ5,H5,I5,st5,fr5,w5⟩
  rcases turn i n σ5 H5 w5 with ⟨stop,qn⟩ | ⟨go,Nx,hNx,step⟩
  ·refine thn (T.done Y rfl rfl rfl hc i [] s5 σ5 H5 Y.xe I5 (fpY fr5) st5 stop) fun r s6 ⟨hr,I6⟩=>?_
   subst hr
   show R (.ok .next) s6
   obtain ⟨m6,hn6,_⟩:=id I6.loc
   have IX:Inv X pins σ H5 s6:=I3.call' (s':=s6) (ch:=fp) I6.os I6.base I6.hok I6.bare fun b hb=>⟨(f3 b hb).2.2.2.1,(f3 b hb).2.1,(f3 b hb).2.2.2.2.1,(f3 b hb).2.2.2.2.2⟩
   refine ⟨m6,hn6,fun h' sb=>⟨.ref L,H5,IX.turned (t':=s6.toks) (it:=P.objs.size) (fun b o hb e=>(sb.2 b hb).trans e) I6.free (Nat.ne_of_gt I3.lt) (.inr I3.sz) (fun x c ec z=>?_) fun p hp z=>?_,rfl,qn⟩⟩
   ·obtain ⟨v0,qv⟩:=I3.cell x c ec
    exact absurd qv.lt (by rw [z]; exact Nat.lt_irrefl _)
   ·have z0:=Heap.lt_size (I3.pin p hp).1
    exact absurd z0 (by rw [z]; exact Nat.lt_irrefl _)
  ·refine thn (T.item Y rfl rfl rfl hc i [] s5 σ5 H5 Y.xe I5 (fpY fr5) st5 go) fun r s6 ⟨u,hr,h6⟩=>?_
   subst hr
   refine thn h6 fun _ s7 ⟨x,H7,I7,r7,y7,st7,fr7⟩=>?_
   have I7':=I7.pinned (fpY fr7) (T.obj _ _ st7)
   refine thn (hg _ _ _ _ _ _ _ _ s7 σ5 H7 x u _ I7' r7 (step x H7 y7)) fun _ s8 ⟨σ8,H8,I8,q8⟩=>?_
   refine thn (ht _ _ _ _ _ _ _ _ s8 σ8 H8 _ I8 q8) fun ok s9 ⟨H9,I9,q9⟩=>?_
   have again:∀ {sx:Shared} {Hx:Hp},Inv Y ([]++mR fp s7.heap) σ8 Hx sx→Nx σ8 Hx→∃ m,m < n∧∃ i σ' H',Inv Y [] σ' H' sx∧tn i sx.heap∧(∀ b∈fp,H' b=none)∧W i m σ' H':=fun {sx Hx} Ix nx=>by
    obtain ⟨m',hm,wx⟩:=hNx σ8 Hx nx
    refine ⟨m',hm,i+1,σ8,Hx,Ix.unpinned,T.keep _ _ _ st7 fun b hb o e=>(Ix.pin (b,o) (List.mem_append_right _ (List.mem_append_right _ (dI hb e)))).1,fun b hb=>?_,wx⟩
    obtain ⟨o,e,d⟩:=T.obj _ _ st7 b hb
    exact (Ix.pin (b,o) (List.mem_append_right _ (List.mem_append_right _ (dI hb e)))).2.1
   cases ok with
   | false =>
    rw [if_neg Bool.false_ne_true] at q9 ⊢
    exact again I9 q9
   | true =>
    rw [if_pos rfl] at q9 ⊢
    refine thn (he _ _ _ _ _ _ _ _ s9 σ8 H9 _ I9 q9) fun y s10 ⟨v10,H10,I10,r10,ys,hys,hz,q10⟩=>?_
    refine thn (bN (X:=Y) _ s10 σ8 H10 (.ref L) [v10] (.ref L) [y] (fun _ H'=>Nx σ8 H') I10 rfl (.cons r10 .nil) ⟨L,ys,v10,rfl,rfl,hys,hz,q10⟩) fun _ s11 ⟨_,H11,I11,_,q11⟩=>?_
    exact again I11 q11
 exact codeAny_compStart_list (loop _ rfl) (T.self X.A 0 _ _ _ stY (loop _ rfl))
end L2
namespace L2
open PySem PySem.Spec PyProof.Rows
theorem fu {J:It} {g:TG} {tc:TT} {te:TE} {R:Hp→Prop} {l:Addr} {σ0:St} {H0:Hp} (n:Nat) (Pv:Nat→St→Hp→Prop) (h0:Pv 0 σ0 H0) (hstop:∀ σ H,Pv n σ H→J.stop n H∧R H)
  (hgo:∀ i σ H,i < n→Pv i σ H→J.go i H∧∀ x H',J.yld i H x H'→g x σ H' fun σ2 H2=>tc σ2 H2 fun b H3=>if b=true then te σ2 H3 fun v H4=>∃ ys,H4 l=some (.lst ys)∧ys.length < sizeLine∧Pv (i+1) σ2 (upd H4 l (.lst (ys++[v]))) else Pv (i+1) σ2 H3) :
  ∃ W:Nat→Nat→St→Hp→Prop,(∃ m,W 0 m σ0 H0)∧∀ i m σ H,W i m σ H →
   (J.stop i H∧R H)∨(J.go i H∧∃ N:St→Hp→Prop,(∀ σ' H',N σ' H'→∃ m',m' < m∧W (i+1) m' σ' H') ∧
    ∀ x H',J.yld i H x H'→g x σ H' fun σ2 H2=>tc σ2 H2 fun b H3=>if b=true then te σ2 H3 fun v H4=>∃ ys,H4 l=some (.lst ys)∧ys.length < sizeLine∧N σ2 (upd H4 l (.lst (ys++[v]))) else N σ2 H3):=by
 refine ⟨fun i m σ H=>m=n - i∧i≤n∧Pv i σ H,⟨n,by simp,Nat.zero_le _,h0⟩,?_⟩
 rintro i m σ H ⟨rfl,hi,p⟩
 by_cases hlt:i < n
 ·obtain ⟨go,st⟩:=hgo i σ H hlt p
  exact .inr ⟨go,Pv (i+1),fun σ' H' p'=>⟨n - (i+1),by omega,rfl,hlt,p'⟩,st⟩
 ·have e:i=n:=by omega
  subst e
  exact .inl (hstop σ H p)
theorem xR {σ:St} {H:Hp} {F:Bool→Hp→Prop} (h:F true H):Qf σ H F:=h
theorem gN {i:Nat} {v:V} {σ:St} {H:Hp} {Q:St→Hp→Prop} (h:Q (σ.set i (some v)) H):xr i v σ H Q:=h
def Its (x:Str):It:=⟨fun i _=>i < x.cps.size,fun i H v H'=>H'=H∧∃ c,x.cps[i]?=some c∧v=.str ⟨#[c]⟩,fun i _=>x.cps.size≤i⟩
theorem CV {P:Program} {w:World} {K:PySem.W.Frag} {tg:Expr} {it:Addr} {x:Str} {t:Tok} {ty:String} (hty:ty = "str_ascii_iterator"∨ty = "str_iterator") :
  Turn P w K tg (Its x) [it] it (fun i h=>i≤x.cps.size∧h.IsStrIter it ty x t i) where
 mem:=by simp
 obj:=fun i h st b hb=>by
  have e:b=it:=by simpa using hb
  subst e
  obtain ⟨_,o,e,c,d⟩:=st
  exact ⟨o,e,fun v z=>by rw [d] at z; cases z⟩
 keep:=fun i h h' st k=>by
  obtain ⟨hi,o,e,r⟩:=st
  exact ⟨hi,o,k it (by simp) o e,r⟩
 item:=by
  intro X hP hw hK hc i pins s σ H E I hf st hg
  subst hP hw hK
  obtain ⟨f0,f1,f2,f3,f4,f5⟩:=hf it (by simp)
  have hlt:i < x.cps.size:=hg
  obtain ⟨_,st⟩:=st
  have W:Walks X.prog X.w X.A it [it] [it] x.cps.size (SignAt x) (fun i h=>h.IsStrIter it ty x t i):=by
   rcases hty with rfl | rfl
   ·exact Walks.strAscii (I.ok.hd hc) it x t
   ·exact Walks.strWide (I.ok.hd hc) it x t
  refine W.item i s _ _ hlt st fun v h' tk hv st' kk=>?_
  obtain ⟨c,u,hc',rfl⟩:=hv
  have I1:Inv X pins σ H { s with heap:=h',toks:=tk }:=I.turned (fun b o hb e=>kk b o (by simpa using hb) e) f0 f1 f3 f4 f5
  obtain ⟨o,e,c2,d⟩:=id st'
  refine ⟨_,rfl,FT (s:={ s with heap:=h',toks:=tk }) (n:=ty) e c2 d ?_ ⟨.str ⟨#[c]⟩,H,I1,⟨u,rfl⟩,⟨rfl,c,hc',rfl⟩,⟨by omega,st'⟩,fun b hb=>(hf b hb).1⟩⟩
  rcases hty with rfl | rfl <;> decide
 done:=by
  intro X hP hw hK hc i pins s σ H E I hf st hg
  subst hP hw hK
  obtain ⟨f0,f1,f2,f3,f4,f5⟩:=hf it (by simp)
  have hge:x.cps.size≤i:=hg
  obtain ⟨hi,st⟩:=st
  have e:i=x.cps.size:=by omega
  subst e
  have W:Walks X.prog X.w X.A it [it] [it] x.cps.size (SignAt x) (fun i h=>h.IsStrIter it ty x t i):=by
   rcases hty with rfl | rfl
   ·exact Walks.strAscii (I.ok.hd hc) it x t
   ·exact Walks.strWide (I.ok.hd hc) it x t
  exact W.done s _ _ st fun h' tk kk=>⟨rfl,I.turned (fun b o hb e=>kk b o (by simpa using hb) e) f0 f1 f3 f4 f5⟩
 self:=fun A i s Q E st h=>by
  obtain ⟨_,st⟩:=st
  rcases hty with rfl | rfl
  ·exact wpAny_pyIter_striter_ascii st h
  ·exact wpAny_pyIter_striter_wide st h
def Qs (tl:TE):TI:=fun σ H R=>tl σ H fun v H1=>∃ x,v=.str x∧R (Its x) H1
theorem Nb {X:Cx} {tg l:Expr} {tl:TE} (hl:PE X l tl):PI X tg l (Qs tl):=by
 intro pins s σ H R I h
 refine thn (hl pins s σ H _ I h) fun v s1 ⟨y,H1,I1,r1,q1⟩=>?_
 obtain ⟨x,e,q⟩:=q1
 subst e
 obtain ⟨t,rfl⟩:=r1
 refine wpAny_pyIter_strU ?_
 have hty:strIterType x = "str_ascii_iterator"∨strIterType x = "str_iterator":=by
  unfold strIterType
  split
  ·exact .inl rfl
  ·exact .inr rfl
 refine ⟨s1.heap.objs.size,[s1.heap.objs.size],_,_,H1,rfl,I1.kept (t':=s1.toks) fun b o e=>Heap.get?_push_of_some _ e,CV (t:=t) hty,⟨Nat.zero_le _,_,Heap.get?_push_size _ rfl,rfl,rfl⟩,fun b hb=>?_,q⟩
 have e:b=s1.heap.objs.size:=by simpa using hb
 subst e
 exact I1.fpOk (Nat.le_refl _) (I1.hok.fresh (Nat.le_refl _))
theorem fL {X:Cx}:fQ X (.builtin "isinstance") (fun xs H Q=>∃ x n t b,xs=[x,.ty n]∧xg X.K H x t∧PySem.W.kitOne X.K t (.type n)=some b∧Q (.bl b) H):=by
 intro pins s σ H xs us Q I r h
 obtain ⟨x,n,t,b,rfl,ty,e,q⟩:=h
 obtain ⟨u,v,rfl,ru,rv⟩:=vals2 r
 cases rv
 exact yQ I ru ty e fun tk=>⟨.bl b,H,I.tok _,rfl,q⟩
theorem wX {ys:List Str}:∀ {us:List Value},Vals (ys.map V.str) us→StrsAre us ys:=by
 induction ys with
 | nil=>intro us r; rw [List.map_nil] at r; cases r; exact .nil
 | cons y ys ih =>
  intro us r
  rw [List.map_cons] at r
  cases r with
  | cons r1 r2 =>
   obtain ⟨t,e⟩:=r1
   subst e
   exact .cons y t (ih r2)
theorem JF {X:Cx}:MtR X "str.join" (fun x xs H Q=>∃ y l ys,x=.str y∧xs=[.ref l]∧SqL X.K H l (ys.map V.str)∧(ys.map (·.length)).sum+ys.length * y.length≤16777216∧Q (.str (Str.join y ys)) H):=by
 intro pins s σ H x xs v us Q I rx r h
 obtain ⟨y,l,ys,rfl,rfl,hq,hz,q⟩:=h
 obtain ⟨t,rfl⟩:=rx
 obtain ⟨u,rfl,ru⟩:=vals1 r
 cases ru
 obtain ⟨its,rv,p,_⟩:=I.list hq
 refine join_list p.isList (ys:=ys) (by simpa using wX rv) hz fun t' k=>?_
 have e:Txt.join y ys=Str.join y ys:=StrLaws.glued_eq_join y ys
 rw [e]
 exact ⟨.str _,H,I.tok _,⟨_,rfl⟩,q⟩
def Ou (i j:Int):Prop:=0 < j∧j < 2 ^ 64
theorem iI {X:Cx}:OpR X (binaryOp .FloorDiv) (rI Ou fun i j=>.int (i / j)):=opI fun i j _ _ _ _ _ hc q=>by
 have h1:(0:Int) < j:=hc.1
 have h2:j < 2 ^ 64:=hc.2
 refine floordiv_int (by omega) (by rw [Int.fdiv_eq_ediv_of_nonneg i (by omega)]; exact q) (.inl (PyProof.noPylong_of_log2 ?_))
 have h3:j.natAbs≠0:=by omega
 have h4:j.natAbs < 2 ^ 64:=by omega
 have h5:j.natAbs.log2 < 64:=(Nat.log2_lt h3).mpr h4
 omega
end L2
namespace L2
open PySem PySem.Spec PyProof.Rows
def jF (js:List (Option Nat)) (σ:St):St:=js.map fun j=>match j with | some j=>σ.getD j none | none=>none
def jq (N:List Str) (js:List (Option Nat)) (XN:List Str) (names:List (Str × NameKind)):Bool :=
 decide (N.length=js.length) && (N.zip js).all fun p=>match p.2 with | none=>true | some j=>decide (XN[j]?=some p.1) && decide (names.lookup p.1=some .free)
theorem zE {N:List Str} {js:List (Option Nat)} {XN:List Str} {names:List (Str × NameKind)} (h:jq N js XN names=true) (σ:St):(jF js σ).length=N.length:=by
 unfold jq at h
 rw [Bool.and_eq_true] at h
 unfold jF
 rw [List.length_map]
 exact (of_decide_eq_true h.1).symm
theorem GJ {N:List Str} {js:List (Option Nat)} {XN:List Str} {names:List (Str × NameKind)} (h:jq N js XN names=true) (σ:St) (i:Nat) (x:Str) (v:V) (h1:N[i]?=some x) (h2:(jF js σ)[i]?=some (some v)) :
  names.lookup x=some .free∧∃ j:Nat,XN[j]?=some x∧σ[j]?=some (some v):=by
 unfold jq at h
 rw [Bool.and_eq_true,List.all_eq_true] at h
 unfold jF at h2
 rw [List.getElem?_map] at h2
 cases e:js[i]? with
 | none=>rw [e] at h2; cases h2
 | some j =>
  rw [e] at h2
  cases j with
  | none=>cases h2
  | some j =>
   have h3:σ.getD j none=some v:=Option.some.inj h2
   have hm:(x,some j)∈N.zip js:=by
    refine List.mem_of_getElem? (i:=i) ?_
    rw [List.getElem?_zip_eq_some]
    exact ⟨h1,e⟩
   have q:=h.2 _ hm
   simp only [Bool.and_eq_true,decide_eq_true_eq] at q
   refine ⟨q.2,j,q.1,?_⟩
   rw [List.getD_eq_getElem?_getD] at h3
   cases e2:σ[j]? with
   | none=>rw [e2] at h3; cases h3
   | some o=>rw [e2] at h3; exact congrArg some h3
theorem cM {X:Cx} {elt tg iter:Expr} {ifs:List Expr} {scope:Scope} {pos:Pos} {wi:TI} {g:TG} {tc:TT} {te:TE} (XN:List Str) (sc:Scope) (N:List Str) (js:List (Option Nat)) (hXN:X.N=XN) (hsc:X.env.scope=sc) (hc:X.calm=true) (hi:PI X tg iter wi)
  (hkind:scope.kind=.function) (hchk:jq N js XN scope.names=true) (hcell:∀ y∈scope.names,y.2≠.cell) (hfree:∀ y∈scope.names,y.2=.free→sc.names.lookup y.1=some .cell∨sc.names.lookup y.1=some .free)
  (hnames:∀ y∈scope.names,y.2=.local→scope.names.lookup y.1=some .local)
  (hg:∀ cl C s H ex pn E,PG (cu X scope N cl C s H ex pn E) tg g) (ht:∀ cl C s H ex pn E,JN (cu X scope N cl C s H ex pn E) ifs tc) (he:∀ cl C s H ex pn E,PE (cu X scope N cl C s H ex pn E) elt te)
  (hs:∀ x,foldedSetIterable iter X.env x=pure x:=by intro _; rfl) :
  PE X (.ListComp elt [⟨tg,iter,ifs,0⟩] scope pos) (FZ wi g tc te (jF js)):=by
 subst hXN
 subst hsc
 exact Hg N (jF js) hc hi hkind hcell hfree hnames (fun σ _=>zE hchk σ) (fun σ i x v _ h1 h2=>GJ hchk σ i x v h1 h2) hg ht he hs
theorem kY (K:PySem.W.Frag) {T U:String} {b:Bool} (h:(if (Value.type T == Value.type U)=true then some true else (if PySem.W.kitMeta U=true then (fastBuiltinMro T).map (·.contains (.type U)) else none))=some b) :
  PySem.W.kitOne K (.type T) (.type U)=some b:=h
theorem pX (K:PySem.W.Frag):PySem.W.kitOne K (.type "int") (.type "tuple")=some false:=kY K (by decide +kernel)
theorem qL (K:PySem.W.Frag):PySem.W.kitOne K (.type "int") (.type "bool")=some false:=kY K (by decide +kernel)
theorem rR (K:PySem.W.Frag):PySem.W.kitOne K (.type "int") (.type "str")=some false:=kY K (by decide +kernel)
theorem rO (K:PySem.W.Frag):PySem.W.kitOne K (.type "int") (.type "int")=some true:=kY K (by decide +kernel)
theorem Lw {α:Type} {xs:List α} {r:Int} (h0:0≤r) (h1:r < xs.length):∃ v,atI xs r=some v∧v∈xs:=by
 have hk:r.toNat < xs.length:=by omega
 have ek:r=((r.toNat:Nat):Int):=by omega
 refine ⟨xs[r.toNat],?_,List.getElem_mem hk⟩
 have q:atI xs ((r.toNat:Nat):Int)=some xs[r.toNat]:=aW (List.getElem?_eq_getElem hk)
 rw [← ek] at q
 exact q
theorem aq {H:Hp} {p:Addr} (h:H p=none) (o:HO):Same H (upd H p o):=fun b u q=>by rw [aF (aB q h)]; exact q
theorem xJ {ns:List Int} {i:Nat} {y:V} (h:(ns.map V.int)[i]?=some y):∃ z,y=V.int z:=by
 rw [List.getElem?_map] at h
 cases e:ns[i]? with
 | none=>rw [e] at h; cases h
 | some z=>rw [e] at h; exact ⟨z,(Option.some.inj h).symm⟩
theorem small {n:Nat} (h:n≤1000):n≤sizeLine:=Nat.le_of_lt (aJ h)
theorem smn (n:Nat) (h:n≤1000:=by decide):n≤sizeLine:=small h
theorem bJ:(1000000:Nat)≤sizeLine:=by rw [sizeLine_eq]; decide
structure Pot (H0:Hp) (p:Addr) (H:Hp):Prop where
 at_:∃ a b:Int,H p=some (.lst [.int a,.int b])
 old:∀ c o,H0 c=some o→c≠p→H c=some o
theorem Pot.turn {H0 H:Hp} {p:Addr} {a b:Int} (P:Pot H0 p H):Pot H0 p (upd H p (.lst [.int a,.int b])) :=
 ⟨⟨a,b,ak⟩,fun c u q hc=>by rw [aF hc]; exact P.old c u q hc⟩
end L2
namespace L2
open PySem PySem.Spec PyProof.Rows
theorem Pot.apart {H0 H:Hp} {p l:Addr} (P:Pot H0 p H) (h:H l=none):l≠p:=by
 obtain ⟨a,b,e⟩:=P.at_
 exact (aB e h).symm
theorem zA {y:Str} (hy:y=⟨#[]⟩) (cs:List Nat) (h:cs.length≤1000000):((cs.map fun c=>(⟨#[c]⟩:Str)).map (·.length)).sum+(cs.map fun c=>(⟨#[c]⟩:Str)).length * y.length≤16777216:=by
 subst hy
 have e:((cs.map fun c=>(⟨#[c]⟩:Str)).map (·.length)).sum=cs.length:=by
  clear h
  induction cs with
  | nil=>rfl
  | cons c r ih =>
   rw [List.map_cons,List.map_cons,List.sum_cons,ih,List.length_cons]
   show 1+r.length=r.length+1
   omega
 rw [e]
 show cs.length+_ * 0≤_
 omega
def sz:List Nat→Int
 | []=>0
 | c :: r=>(if c=32∨c=10 then 0 else 1)+sz r
end L2
namespace L2
open PySem PySem.Spec PyProof.Rows
theorem Kv {bs:List Bool} {its:List Value} (r:Vals (bs.map V.bl) its) {i:Nat} {v:Value} (h:its.toArray[i]?=some v):v=.bool (bs.getD i true):=by
 have h':its[i]?=some v:=by simpa using h
 have hl:=r.length
 have hi:i < its.length:=(List.getElem?_eq_some_iff.mp h').1
 have hb:i < bs.length:=by rw [List.length_map] at hl; omega
 obtain ⟨u,hu,ru⟩:=r.get (i:=i) (x:=V.bl bs[i]) (by rw [List.getElem?_map,List.getElem?_eq_getElem hb]; rfl)
 rw [h'] at hu
 cases hu
 have e:bs.getD i true=bs[i]:=by rw [List.getD_eq_getElem?_getD,List.getElem?_eq_getElem hb]; rfl
 rw [e]
 exact ru
theorem all_range (bs:List Bool):(List.range bs.length).all (fun i=>bs.getD i true)=bs.all id:=by
 rw [Bool.eq_iff_iff,List.all_eq_true,List.all_eq_true]
 constructor
 ·intro h b hb
  obtain ⟨i,hi,e⟩:=List.getElem_of_mem hb
  have q:=h i (List.mem_range.mpr hi)
  rw [List.getD_eq_getElem?_getD,List.getElem?_eq_getElem hi] at q
  rw [← e]
  exact q
 ·intro h i hi
  have hi':=List.mem_range.mp hi
  rw [List.getD_eq_getElem?_getD,List.getElem?_eq_getElem hi']
  exact h _ (List.getElem_mem hi')
theorem Cd {X:Cx} (hc:X.calm=true):fQ X (.builtin "all") (fun xs H Q=>∃ (l:Addr) (bs:List Bool),xs=[.ref l]∧SqL X.K H l (bs.map V.bl)∧Q (.bl (bs.all id)) H):=by
 intro pins s σ H xs us Q I r h
 obtain ⟨l,bs,rfl,hq,q⟩:=h
 obtain ⟨u,rfl,ru⟩:=vals1 r
 cases ru
 obtain ⟨its,rv,p,hz⟩:=I.list hq
 have hd:X.A.in1.handled=none:=I.ok.hd hc
 have hl:=rv.length
 refine call_all_walk (wpAny_pyIter_list p.isList ?_)
 obtain ⟨o,n,eo,_⟩:=id p
 have hne:l≠s.heap.objs.size:=Nat.ne_of_lt (Heap.lt_size eo)
 refine ⟨s.heap.objs.size,_,_,_,_,_,fun i=>bs.getD i true,rfl,Walks.list hd s.heap.objs.size l hne its.toArray,⟨⟨_,Heap.get?_push_size _ rfl,rfl,rfl⟩,p.isList.push _⟩,fun i v s' Q' E' hv hQ'=>?_,fun h' tk hk=>?_⟩
 ·rw [Kv rv hv]
  exact wpAny_truthy_bool hQ'
 ·have e:its.toArray.size=bs.length:=by rw [List.size_toArray,← hl,List.length_map]
  rw [e,all_range]
  have I1:Inv X pins σ H { s with heap:=s.heap.push { cls:=.type "list_iterator",data:=.fields #[.ref l,.int 0 0] } }:=I.kept (t':=s.toks) fun b o q=>Heap.get?_push_of_some _ q
  obtain ⟨f0,f1,f2,f3,f4,f5⟩:=I.fpOk (b:=s.heap.objs.size) (Nat.le_refl _) I.fresh
  exact ⟨.bl _,H,I1.turned (it:=s.heap.objs.size) (fun b o hb e=>hk b o (by simpa using hb) e) f0 f1 f3 f4 f5,rfl,q⟩
theorem oY (K:PySem.W.Frag):PySem.W.kitOne K (.type "str") (.type "tuple")=some false:=kY K (by decide +kernel)
theorem sI (K:PySem.W.Frag):PySem.W.kitOne K (.type "str") (.type "str")=some true:=kY K (by decide +kernel)
theorem lg (K:PySem.W.Frag):PySem.W.kitOne K (.type "tuple") (.type "tuple")=some true:=kY K (by decide +kernel)
def LET:Str:="abcdefghijklmnopqrstuvwxyz"
theorem uf:LET.length=26:=by decide +kernel
def isNm (x:Str):Bool:=decide (1≤x.length) && decide (x.length≤8) && x.cps.toList.all fun c=>decide (97≤c∧c≤122)
end L2
namespace ZT
open PySem
open Sem (wp)
section
variable {prog:Program} {w:World} {A:Around} {E:Value→Shared→Prop} {s:Shared}
theorem Fp {it t:Addr} {i:Nat} {its:Array Value} {x:Value} {Q:Value→Shared→Prop} (ti:s.heap.IsTupleIter it t i) (tt:s.heap.IsTuple t its) (tx:its[i]?=some x)
  (k:∀ g,g.IsTupleIter it t (i+1)→Heap.SameBut it s.heap g→Q x { s with heap:=g }):wpAny (model prog w) A (Builtin.SmallTypes.nextOf (.ref it)) Q E s:=by
 obtain ⟨o,eo,ec,ed⟩:=id ti
 obtain ⟨ol,el,_,nl,dl⟩:=tt
 unfold Builtin.SmallTypes.nextOf
 refine wpAny_bind (wpAny_callSpecial?_slot (name:=Str.ofString "__next__") ti.typeIs F.slot_tuple_iterator_next (wpAny_call_entry F.slot_tuple_iterator_next ti.typeIs F.entry_tuple_iterator_next ?_ (F.args_tuple_iterator_next_1 _)))
 show wpAny _ _ (field (.ref it) 0 >>= _) _ _ s
 refine wpAny_bind (wpAny_field eo ed (x:=.ref t) rfl ?_)
 show wpAny _ _ (if (Value.ref t == Value.none)=true then _ else _) _ _ s
 rw [if_neg (by intro z; cases z)]
 show wpAny _ _ (field (.ref it) 1 >>= _) _ _ s
 refine wpAny_bind (wpAny_field eo ed (x:=.int i 0) rfl ?_)
 show wpAny _ _ (seqItems? (.ref t) >>= _) _ _ s
 refine wpAny_bind (wpAny_seqItems el dl ?_)
 simp only [Int.toNat_natCast,tx]
 refine wpAny_bind (wpAny_setField eo ed (by simp) (wpAny_pure ⟨x,rfl,wpAny_pure (k _ ?_ (Heap.SameBut.update ..))⟩))
 refine ⟨_,Heap.get?_update_self _ eo (Obj.isFreed_of_fields (Obj.data_mapFields ed _)),(Obj.cls_mapFields ..).trans ec,?_⟩
 rw [Obj.data_mapFields ed]
 simp [rawInt]
theorem Ij {it t:Addr} {i:Nat} {its:Array Value} {Q:Value→Shared→Prop} (hd:A.handled=none) (ti:s.heap.IsTupleIter it t i) (tt:s.heap.IsTuple t its) (tx:its[i]?=none)
  (k:∀ g e,Heap.ExtBut it s.heap g→(∃ o,g.get? e=some o∧o.cls=.type "StopIteration")→E (.ref e) { s with heap:=g }):wpAny (model prog w) A (Builtin.SmallTypes.nextOf (.ref it)) Q E s:=by
 obtain ⟨o,eo,ec,ed⟩:=id ti
 obtain ⟨ol,el,_,nl,dl⟩:=tt
 unfold Builtin.SmallTypes.nextOf
 refine wpAny_bind (wpAny_callSpecial?_slot (name:=Str.ofString "__next__") ti.typeIs F.slot_tuple_iterator_next (wpAny_call_entry F.slot_tuple_iterator_next ti.typeIs F.entry_tuple_iterator_next ?_ (F.args_tuple_iterator_next_1 _)))
 show wpAny _ _ (field (.ref it) 0 >>= _) _ _ s
 refine wpAny_bind (wpAny_field eo ed (x:=.ref t) rfl ?_)
 show wpAny _ _ (if (Value.ref t == Value.none)=true then _ else _) _ _ s
 rw [if_neg (by intro z; cases z)]
 show wpAny _ _ (field (.ref it) 1 >>= _) _ _ s
 refine wpAny_bind (wpAny_field eo ed (x:=.int i 0) rfl ?_)
 show wpAny _ _ (seqItems? (.ref t) >>= _) _ _ s
 refine wpAny_bind (wpAny_seqItems el dl ?_)
 simp only [Int.toNat_natCast,tx]
 refine wpAny_bind (wpAny_rule (wpAny_bind (wpAny_setField eo ed (by simp) ?_)))
 show wpAny _ _ (newExc (.type "StopIteration") [] >>= _) _ _ _
 refine wpAny_bind ?_
 simp only [newExc,newTuple]
 refine wpAny_bind (wpAny_newObj_type ?_ (by size_fits))
 refine wpAny_bind (m:=firstArgMember _ _) (wpAny_of_eq (a:=Value.none) (by first | rfl | (simp only [firstArgMember]; rfl)) ?_)
 refine wpAny_newObj_type ?_ (by size_fits)
 simp only [raiseNew]
 refine wpAny_bind (wpAny_handled ?_)
 first | rw [show A.in1.handled=none from hd] | rw [hd]
 refine wpAny_bind (wpAny_pure (wpAny_throw ?_))
 exact k _ _ (((Heap.SameBut.update ..).extBut.push _).push _) ⟨_,Heap.get?_push_size _ rfl,rfl⟩
structure Apart (z TI TO i1 i2 t1 t2:Addr):Prop where
 a1:TI≠z
 a2:TO≠z
 a3:i1≠z
 a4:i2≠z
 b1:TI≠TO
 b2:TI≠i1
 b3:TI≠i2
 b4:TO≠i1
 b5:TO≠i2
 b6:i1≠i2
 c1:t1≠z
 c2:t1≠TO
 c3:t1≠i1
 c4:t1≠i2
 d1:t2≠z
 d2:t2≠TO
 d3:t2≠i1
 d4:t2≠i2
end
end ZT
namespace L2
open PySem PySem.Spec PyProof.Rows
section
variable {X:Cx} {pins:List (Addr × Obj)} {σ:St} {H:Hp} {s:Shared} {h':Heap} {t':Nat} {ch:List Addr}
end
end L2
namespace M01
open PySem
def isW (c:Nat):Bool:=decide (97≤c∧c≤122) || decide (65≤c∧c≤90) || decide (48≤c∧c≤57)
abbrev S:=List (List Nat) × List Nat
def stp (st:S) (c:Nat):S:=if isW c=true then (st.1,st.2++[c]) else (if st.2=[] then st else (st.1++[st.2],[]))
def scn (l:List Nat):S:=l.foldl stp ([],[])
def fn (st:S):List (List Nat):=if st.2=[] then st.1 else st.1++[st.2]
def wds (l:List Nat):List (List Nat):=fn (scn l)
theorem vR (l:List Nat) (c:Nat):scn (l++[c])=stp (scn l) c:=by
 unfold scn
 rw [List.foldl_append]
 rfl
theorem El (l:List Nat) (c:Nat):(scn (l++[c])).2=[]↔isW c=false:=by
 rw [vR]
 unfold stp
 by_cases h:isW c=true
 ·rw [if_pos h]
  simp [h]
 ·rw [if_neg h]
  have h':isW c=false:=by simpa using h
  by_cases e:(scn l).2=[]
  ·rw [if_pos e]
   exact ⟨fun _=>h',fun _=>e⟩
  ·rw [if_neg e]
   exact ⟨fun _=>h',fun _=>rfl⟩
def cmp (st:S) (rest:List Nat):List (List Nat):=if st.2=[] then st.1 else st.1++[st.2++rest.takeWhile isW]
theorem HS (st:S):cmp st []=fn st:=by
 unfold cmp fn
 simp
theorem Jm {st:S} {c:Nat} {rest:List Nat} (h:isW c=true) (e:st.2=[]):cmp (stp st c) rest=cmp st (c :: rest)++[(c :: rest).takeWhile isW]:=by
 unfold cmp stp
 rw [if_pos h,if_pos e]
 show (if st.2++[c]=[] then st.1 else st.1++[st.2++[c]++rest.takeWhile isW])=_
 rw [e,if_neg (by simp),List.takeWhile_cons,if_pos h]
 rfl
theorem Im {st:S} {c:Nat} {rest:List Nat} (h:¬ (isW c=true∧st.2=[])):cmp (stp st c) rest=cmp st (c :: rest):=by
 unfold cmp stp
 by_cases hw:isW c=true
 ·have e:¬ st.2=[]:=fun z=>h ⟨hw,z⟩
  rw [if_pos hw,if_neg e]
  show (if st.2++[c]=[] then st.1 else st.1++[st.2++[c]++rest.takeWhile isW])=_
  rw [if_neg (by simp),List.takeWhile_cons,if_pos hw,List.append_assoc]
  rfl
 ·rw [if_neg hw]
  by_cases e:st.2=[]
  ·rw [if_pos e,if_pos e,if_pos e]
  ·rw [if_neg e,if_neg e]
   show (if ([]:List Nat)=[] then st.1++[st.2] else _)=_
   rw [if_pos rfl,List.takeWhile_cons,if_neg hw,List.append_nil]
def bl (c:Nat):Nat:=if isW c=true then c else 32
theorem Ms (c:Nat):Unicode.isSpace (bl c)=!isW c:=by
 unfold bl
 by_cases h:isW c=true
 ·rw [if_pos h,h]
  have hc:c < 123:=by
   unfold isW at h
   simp only [Bool.or_eq_true,decide_eq_true_eq] at h
   omega
  have all:∀ d,d < 123→isW d=true→Unicode.isSpace d=false:=by decide +kernel
  rw [all c hc h]
  rfl
 ·have h':isW c=false:=by simpa using h
  rw [if_neg h,h']
  decide +kernel
theorem str_len (l:List Nat):(⟨l.toArray⟩:Str).length=l.length:=by simp [Str.length]
theorem qW:∀ (l:List Nat) (st:KWd.St) (q:S),st.1=q.1.map (fun r=>(⟨r.toArray⟩:Str))→st.2=⟨q.2.toArray⟩ →
  ((l.map bl).foldl KWd.step st).1=((l.foldl stp q).1).map (fun r=>(⟨r.toArray⟩:Str))∧((l.map bl).foldl KWd.step st).2=⟨(l.foldl stp q).2.toArray⟩
 | [],st,q,h1,h2=>⟨h1,h2⟩
 | c :: r,st,q,h1,h2=>by
  rw [List.map_cons,List.foldl_cons,List.foldl_cons]
  refine qW r _ _ ?_ ?_
  ·unfold KWd.step stp
   rw [Ms]
   by_cases h:isW c=true
   ·rw [h]
    simp only [Bool.not_true,Bool.false_eq_true,if_false,if_true]
    exact h1
   ·have h':isW c=false:=by simpa using h
    rw [h']
    simp only [Bool.not_false,if_true,Bool.false_eq_true,if_false]
    by_cases e:q.2=[]
    ·rw [if_pos (by rw [h2,e]; rfl),if_pos e]
     exact h1
    ·have hl:¬ st.2.length=0:=by
      rw [h2,str_len]
      intro z
      exact e (List.length_eq_zero_iff.mp z)
     rw [if_neg hl,if_neg e]
     show st.1++[st.2]=(q.1++[q.2]).map _
     rw [List.map_append,h1,h2]
     rfl
  ·unfold KWd.step stp
   rw [Ms]
   by_cases h:isW c=true
   ·rw [h]
    simp only [Bool.not_true,Bool.false_eq_true,if_false,if_true]
    rw [h2]
    show Str.mk (q.2.toArray ++ #[bl c])=_
    unfold bl
    rw [if_pos h]
    congr 1
    simp
   ·have h':isW c=false:=by simpa using h
    rw [h']
    simp only [Bool.not_false,if_true,Bool.false_eq_true,if_false]
    by_cases e:q.2=[]
    ·rw [if_pos (by rw [h2,e]; rfl),if_pos e]
     exact h2
    ·have hl:¬ st.2.length=0:=by
      rw [h2,str_len]
      intro z
      exact e (List.length_eq_zero_iff.mp z)
     rw [if_neg hl,if_neg e]
     rfl
theorem Ce (l:List Nat):Txt.words ⟨(l.map bl).toArray⟩=(wds l).map (fun r=>(⟨r.toArray⟩:Str)):=by
 rw [KWd.words_scan]
 obtain ⟨h1,h2⟩:=qW l ([],Str.empty) ([],[]) rfl rfl
 have e:KWd.scan ⟨(l.map bl).toArray⟩=(l.map bl).foldl KWd.step ([],Str.empty):=by
  unfold KWd.scan
  simp
 unfold KWd.fin wds fn scn
 rw [e,h1,h2,str_len]
 by_cases z:(l.foldl stp ([],[])).2=[]
 ·rw [if_pos (by rw [z]; rfl),if_pos z]
 ·rw [if_neg (fun q=>z (List.length_eq_zero_iff.mp q)),if_neg z,List.map_append]
  rfl
end M01
namespace L2
open PySem PySem.Spec PyProof.Rows
theorem qH {v:Value} {o:Option Int} (h:IsPart v o):∃ q:Option (Int × Tok),v=partValue q∧o=q.map (·.1):=by
 cases h with
 | none=>exact ⟨none,rfl,rfl⟩
 | int i t=>exact ⟨some (i,t),rfl,rfl⟩
def Rc:V→Option Int→Option Int→Hp→VK→Prop:=fun x lo hi H Q=>∃ y:Str,x=.str y∧y.length≤sizeLine∧Q (.str (Txt.slice y lo hi)) H
theorem lC {X:Cx}:SlR X Rc:=by
 intro pins s σ H x v vl vu lo hi sl Q I rx hs pl pu h
 obtain ⟨y,rfl,hz,q⟩:=h
 obtain ⟨t,rfl⟩:=rx
 obtain ⟨ql,rfl,rfl⟩:=qH pl
 obtain ⟨qu,rfl,rfl⟩:=qH pu
 refine ⟨"str",_,F.slot_str_getitem.lookup,typeIs_str _ _ _,?_⟩
 refine wpAny_getItem_str_slice (l:=ql) (u:=qu) (st:=none) hs rfl ?_
 exact post_val_or_str ⟨Nat.le_trans (Txt.slice_le y _ _) hz,fun t' k=>⟨.str _,H,I.tok _,⟨_,rfl⟩,q⟩⟩
theorem wN (l:List (Str × Tok)):Vals ((l.map (·.1)).map V.str) (strValues l):=by
 induction l with
 | nil=>exact .nil
 | cons p r ih=>exact .cons ⟨p.2,rfl⟩ ih
theorem Ej {X:Cx}:MtR X "str.split" (fun x xs H Q=>∃ y:Str,x=.str y∧xs=[]∧y.length≤100000∧∀ l,H l=none→Q (.ref l) (upd H l (.lst ((Txt.words y).map V.str)))):=by
 intro pins s σ H x xs v us Q I rx r h
 obtain ⟨y,rfl,rfl,hz,q⟩:=h
 obtain ⟨t,rfl⟩:=rx
 cases r
 have hb:=bJ
 have e1:=(StrLaws.sw_weight y).1
 have e2:=StrLaws.len_le_wsum (Builtin.Str.spaceWords y (y.length+1))
 have hn:(Builtin.Str.spaceWords y (y.length+1)).length≤sizeLine:=by omega
 refine call_meets F.slot_str_split (typeIs_str _ _ _) F.entry_str_split (F.args_str_split_1 _) (meets_str_split_space y t (by omega) hn) ?_
 have fin:∀ (l:List (Str × Tok)) (tk:Nat),l.map (·.1)=Txt.words y→l.length≤sizeLine→EP X pins σ Q (.ref s.heap.objs.size) { s with heap:=s.heap.push { cls:=.type "list",data:=.seq (strValues l).toArray },toks:=tk }:=fun l tk e hl=>by
  refine ⟨.ref s.heap.objs.size,_,I.lnew (its:=strValues l) (ys:=(l.map (·.1)).map V.str) (wN l) (by rw [List.length_map,List.length_map]; exact hl),rfl,?_⟩
  rw [e]
  exact q _ I.fresh
 cases hw:Builtin.Str.spaceWords y (y.length+1) == [(0,y.length)]
 ·simp only [Bool.false_eq_true,if_false]
  rw [strsFrom_eq]
  have et:=numbered_texts s.toks (wordsOf y)
  refine fin (numbered s.toks (wordsOf y)) _ (et.trans (if_neg (ne_true_of_eq_false hw)).symm) ?_
  have el:=congrArg List.length et
  rw [List.length_map] at el
  rw [el]
  unfold wordsOf
  rw [List.length_map]
  exact hn
 ·simp only [if_true]
  exact fin [(y,t)] s.toks (if_pos hw).symm (by show 1≤sizeLine; omega)
theorem Hq (a c:Nat):decide (([c]:List Nat) < [a])=decide (c < a):=by
 rw [Bool.eq_iff_iff]
 simp only [decide_eq_true_eq]
 constructor
 ·intro h
  cases h with
  | cons h=>cases h
  | rel h=>exact h
 ·intro h
  exact List.Lex.rel h
def FW:R2:=fun x y H Q=>∃ a c:Nat,x=.str ⟨#[a]⟩∧y=.str ⟨#[c]⟩∧Q (.bl (decide (a≤c))) H
theorem mV {X:Cx}:OpR X (compareOp .LtE) FW:=by
 intro pins s σ H x y v u Q I rx ry h
 obtain ⟨a,c,rfl,rfl,q⟩:=h
 obtain ⟨t,rfl⟩:=rx
 obtain ⟨t',rfl⟩:=ry
 refine PySem.P.le_str ?_
 have e:(!decide (([c]:List Nat) < [a]))=decide (a≤c):=by
  rw [Hq,Bool.eq_iff_iff]
  simp
 show EP X pins σ Q (.bool (!decide (([c]:List Nat) < [a]))) s
 rw [e]
 exact ⟨.bl _,H,I,rfl,q⟩
theorem jx {i a b c:Nat} {x z:Str} {σ:St} {H:Hp} {Q:VK} (hx:x=⟨#[a]⟩) (hz:z=⟨#[b]⟩) (h0:σ[i]?=some (some (.str ⟨#[c]⟩))) (q:Q (.bl (decide (a≤c∧c≤b))) H) :
  rJ FW FW (tC (.str x)) (qU i) (tC (.str z)) σ H Q:=by
 subst hx
 subst hz
 refine ⟨_,h0,a,c,rfl,rfl,_,rfl,?_⟩
 refine gR (fun h=>?_) (fun h=>?_)
 ·refine ⟨c,b,rfl,rfl,?_⟩
  have h':a≤c:=of_decide_eq_true h
  have e:decide (a≤c∧c≤b)=decide (c≤b):=decide_eq_decide.mpr ⟨fun z=>z.2,fun z=>⟨h',z⟩⟩
  rw [← e]
  exact q
 ·have e:decide (a≤c∧c≤b)=false:=decide_eq_false fun z=>h (decide_eq_true z.1)
  rw [e] at q
  exact q
end L2
namespace L2
open PySem PySem.Spec PyProof.Rows
structure Cal (P:Program) (w:World) (K:PySem.W.Frag) (mg:Str→Option Value) (base:Heap) (x:Str) (k:Nat) (ps:List Str) (sp:Sp):Prop where
 ex:∃ (f:Addr) (fd:FuncData),jQ P w K mg base CX0 k f fd ps sp∧Binds K fd ps []∧PySem.W.keepIn K (.ref f)=true∧mg x=some (.ref f)
structure Has (K:PySem.W.Frag) (mg:Str→Option Value) (x:Str) (st:Stmt) (ps:List Str):Prop where
 ex:∃ (f:Addr) (fd:FuncData),Fun K x x st f fd∧Binds K fd ps []∧mg x=some (.ref f)
section
variable {P:Program} {w:World} {K:PySem.W.Frag} {mg:Str→Option Value} {base:Heap}
theorem Has.cal {x:Str} {st:Stmt} {ps:List Str} {k:Nat} {sp:Sp} (h:Has K mg x st ps) (ok:∀ (f:Addr) (fd:FuncData),Fun K x x st f fd→mg x=some (.ref f)→Binds K fd ps []→jQ P w K mg base CX0 k f fd ps sp):Cal P w K mg base x k ps sp:=by
 obtain ⟨f,fd,F,b,m⟩:=h.ex
 exact ⟨f,fd,ok f fd F m b,b,F.kp,m⟩
theorem Has.mk' {x:Str} {st:Stmt} {N ps:List Str} {k:Nat} {sp:Sp} (h:Has K mg x st ps) (S:aQ N ps (aC st)) (len:∀ vs H Q E,sp vs H Q E→vs.length=ps.length)
  (hbody:∀ (f:Addr) (cdv:Value) (A:Around) (outer:List Env) (s:Shared) (H:Hp) (vs:List V) (Q:VK) (E:XK),jf k (A.deeper (envOfC x (aC st) s.heap.objs.size f cdv))→sp vs H Q E →
   ∃ t,PSs (uy CX0 P w K mg base N x (aC st) f cdv A outer s H E).nox (dN st) t∧t { nx:=fun _ H'=>Q .non H',rt:=Q } (start N vs) H):Cal P w K mg base x (k+1) ps sp :=
 h.cal fun f fd F _ _=>F.ok S len (hbody f)
end
theorem aK {X:Cx} {x:Str} {k n:Nat} {ps:List Str} {sp:Sp} {e:Expr} {es:List Expr} {t:TA} {p pos:Pos} (C:Cal X.prog X.w X.K X.mg X.base x k ps sp) (hr:jf n X.A) (hk:k≤n) (hg:Gl X x) (ha:PA X (e :: es) t)
  (hdb:(x == ("__debug__" : Str))=false:=by decide) (he:starEach (e :: es) X.env=(false,eval e X.env) :: starEach es X.env:=by rfl) (hpl:(backTo pos (starEach es X.env)).any (·.1)=false:=by rfl) :
  PE X (.Call (.Name x p) (e :: es) [] pos) (Jb sp [] E0 t):=by
 obtain ⟨f,fd,F,b,kp,m⟩:=C.ex
 exact Ay F (hr.mono hk) hg m kp b .nil Ls ha hdb he hpl
inductive D where
 | non | bl (b:Bool) | int (i:Int) | str (x:Str) | tup (ds:List D)
mutual
def Den (H:Hp):V→D→Prop
 | v,.non=>v=.non
 | v,.bl b=>v=.bl b
 | v,.int i=>v=.int i
 | v,.str x=>v=.str x
 | v,.tup ds=>∃ (p:Addr) (vs:List V),v=.ref p∧H p=some (.tup vs)∧bI H vs ds
def bI (H:Hp):List V→List D→Prop
 | [],[]=>True
 | v :: vs,d :: ds=>Den H v d∧bI H vs ds
 | _,_=>False
end
mutual
theorem Den.same {H H':Hp} (e:Same H H'):∀ {d:D} {v:V},Den H v d→Den H' v d
 | .non,_,h=>h
 | .bl _,_,h=>h
 | .int _,_,h=>h
 | .str _,_,h=>h
 | .tup ds,_,h=>by
  obtain ⟨p,vs,rfl,hp,hd⟩:=h
  exact ⟨p,vs,rfl,e _ _ hp,bI.same e hd⟩
theorem bI.same {H H':Hp} (e:Same H H'):∀ {ds:List D} {vs:List V},bI H vs ds→bI H' vs ds
 | [],[],_=>trivial
 | _ :: _,_ :: _,h=>⟨Den.same e h.1,bI.same e h.2⟩
 | [],_ :: _,h=>h.elim
 | _ :: _,[],h=>h.elim
end
theorem bI.len {H:Hp}:∀ {ds:List D} {vs:List V},bI H vs ds→vs.length=ds.length
 | [],[],_=>rfl
 | _ :: ds,_ :: vs,h=>by rw [List.length_cons,List.length_cons,bI.len h.2]
 | [],_ :: _,h=>h.elim
 | _ :: _,[],h=>h.elim
theorem bI.at_ {H:Hp}:∀ {ds:List D} {vs:List V} {i:Nat} {v:V},bI H vs ds→vs[i]?=some v→∃ d,ds[i]?=some d∧Den H v d
 | [],[],i,v,_,h=>by simp at h
 | d :: ds,_ :: vs,0,v,h,e=>by
  simp at e
  subst e
  exact ⟨d,rfl,h.1⟩
 | _ :: ds,_ :: vs,i+1,v,h,e=>bI.at_ (i:=i) h.2 (by simpa using e)
 | [],_ :: _,_,_,h,_=>h.elim
 | _ :: _,[],_,_,h,_=>h.elim
theorem bI.strs {H:Hp}:∀ xs:List Str,bI H (xs.map V.str) (xs.map D.str)
 | []=>trivial
 | _ :: r=>⟨rfl,bI.strs r⟩
theorem bI.snoc {H:Hp} {v:V} {d:D} (hd:Den H v d):∀ {ds:List D} {vs:List V},bI H vs ds→bI H (vs++[v]) (ds++[d])
 | [],[],_=>⟨hd,trivial⟩
 | _ :: _,_ :: _,h=>⟨h.1,bI.snoc hd h.2⟩
 | [],_ :: _,h=>h.elim
 | _ :: _,[],h=>h.elim
def eO:Nat→D→Prop
 | 0,d=>d≠.non∧∀ ds,d≠.tup ds
 | n+1,d=>d≠.non∧∀ ds,d=.tup ds→ds.length≤100000∧∀ e∈ds,eO n e
theorem eO.up:∀ {n:Nat} {d:D},eO n d→eO (n+1) d
 | 0,d,h=>⟨h.1,fun ds e=>absurd e (h.2 ds)⟩
 | n+1,d,h=>⟨h.1,fun ds e=>⟨(h.2 ds e).1,fun x hx=>((h.2 ds e).2 x hx).up⟩⟩
theorem eO.ne:∀ {n:Nat} {d:D},eO n d→d≠.non
 | 0,_,h=>h.1
 | _+1,_,h=>h.1
theorem dD (x:Str):eO 0 (.str x):=⟨(fun z=>nomatch z),fun _ z=>nomatch z⟩
theorem uE (x:Int):eO 0 (.int x):=⟨(fun z=>nomatch z),fun _ z=>nomatch z⟩
theorem Has.never {P:Program} {w:World} {K:PySem.W.Frag} {mg:Str→Option Value} {base:Heap} {x:Str} {st:Stmt} {ps:List Str} {sp:Sp} (h:Has K mg x st ps) (no:∀ vs H Q E,¬ sp vs H Q E):Cal P w K mg base x 0 ps sp :=
 h.cal fun f fd F _ _=>⟨fun vs H Q E z=>absurd z (no vs H Q E),fun A outer s H args us vs Q E _ _ _ _ z=>absurd z (no vs H Q E)⟩
theorem aN {H:Hp} {ds:List D} {v:V} (h:Den H v (.tup ds)):∃ (p:Addr) (vs:List V),v=.ref p∧H p=some (.tup vs)∧bI H vs ds:=h
def Qz (p:Addr) (H H':Hp):Prop:=∀ c o,H c=some o→c≠p→H' c=some o
mutual
theorem Den.keepT {H H':Hp} (e:∀ (b:Addr) (vs:List V),H b=some (.tup vs)→H' b=some (.tup vs)):∀ {d:D} {v:V},Den H v d→Den H' v d
 | .non,_,h=>h
 | .bl _,_,h=>h
 | .int _,_,h=>h
 | .str _,_,h=>h
 | .tup ds,_,h=>by
  obtain ⟨p,vs,rfl,hp,hd⟩:=h
  exact ⟨p,vs,rfl,e _ _ hp,bI.keepT e hd⟩
theorem bI.keepT {H H':Hp} (e:∀ (b:Addr) (vs:List V),H b=some (.tup vs)→H' b=some (.tup vs)):∀ {ds:List D} {vs:List V},bI H vs ds→bI H' vs ds
 | [],[],_=>trivial
 | _ :: _,_ :: _,h=>⟨Den.keepT e h.1,bI.keepT e h.2⟩
 | [],_ :: _,h=>h.elim
 | _ :: _,[],h=>h.elim
end
section
variable {X:Cx} {K:PySem.W.Frag} {o e:Expr} {es:List Expr} {to:TE} {t:TA} {name:Str} {apos cpos:Pos} {T id:String} {r:V→List V→Hp→VK→Prop}
theorem nR (hK:X.K=K):IxR X (PX K):=by subst hK; exact bC
end
end L2
namespace L2
open PySem PySem.Spec PyProof.Rows
section
variable {κ:Type} [DecidableEq κ]
def d8 (kvs:List (κ × V)) (k:κ):Option V:=(kvs.find? fun kv=>decide (kv.1=k)).map (·.2)
def putK (kvs:List (κ × V)) (k:κ) (v:V):List (κ × V) :=
 if (kvs.any fun kv=>decide (kv.1=k))=true then kvs.map (fun kv=>if kv.1=k then (kv.1,v) else kv) else kvs++[(k,v)]
def QG (kvs:List (κ × V)) (k:κ):List (κ × V):=kvs.filter fun kv=>decide (kv.1≠k)
theorem bh {p:κ × V} {r:List (κ × V)} {k:κ} (e:p.1=k):d8 (p :: r) k=some p.2:=by simp [d8,List.find?_cons,e]
theorem aR {p:κ × V} {r:List (κ × V)} {k:κ} (e:¬ p.1=k):d8 (p :: r) k=d8 r k:=by simp [d8,List.find?_cons,e]
theorem jZ (k:κ):∀ kvs:List (κ × V),(kvs.any fun kv=>decide (kv.1=k))=(d8 kvs k).isSome
 | []=>rfl
 | p :: r=>by
  rw [List.any_cons]
  by_cases e:p.1=k
  ·simp only [bh e,decide_eq_true e,Bool.true_or,Option.isSome_some]
  ·rw [aR e,decide_eq_false e,Bool.false_or]; exact jZ k r
theorem uN (k j:κ) (y:V):∀ kvs:List (κ × V),d8 (kvs.map fun kv=>if kv.1=k then (kv.1,y) else kv) j=(d8 kvs j).map fun x=>if j=k then y else x
 | []=>rfl
 | p :: r=>by
  have ih:=uN k j y r
  rw [List.map_cons]
  by_cases h:p.1=k
  ·rw [if_pos h]
   by_cases e:p.1=j
   ·rw [bh (p:=(p.1,y)) e,bh e,Option.map_some,if_pos (e.symm.trans h)]
   ·rw [aR (p:=(p.1,y)) e,aR e,ih]
  ·rw [if_neg h]
   by_cases e:p.1=j
   ·rw [bh (p:=p) e,bh e,Option.map_some,if_neg (fun z=>h (e.trans z))]
   ·rw [aR (p:=p) e,aR e,ih]
theorem qd (k j:κ) (y:V):∀ kvs:List (κ × V),d8 kvs k=none→d8 (kvs++[(k,y)]) j=if j=k then some y else d8 kvs j
 | [],_=>by
  by_cases e:k=j
  ·rw [if_pos e.symm]; exact bh (p:=(k,y)) e
  ·rw [if_neg (fun z=>e z.symm)]; exact aR (p:=(k,y)) e
 | p :: r,hn=>by
  rw [List.cons_append]
  have hk:¬ p.1=k:=fun z=>by rw [bh z] at hn; cases hn
  rw [aR hk] at hn
  have ih:=qd k j y r hn
  by_cases e:p.1=j
  ·rw [bh e,bh e,if_neg (fun z=>hk (e.trans z))]
  ·rw [aR e,aR e,ih]
theorem iV (kvs:List (κ × V)) (k j:κ) (y:V):d8 (putK kvs k y) j=if j=k then some y else d8 kvs j:=by
 unfold putK
 by_cases a:(kvs.any fun kv=>decide (kv.1=k))=true
 ·rw [if_pos a,uN]
  rw [jZ] at a
  by_cases e:j=k
  ·obtain ⟨x,hx⟩:=Option.isSome_iff_exists.mp a
   rw [if_pos e,e,hx,Option.map_some,if_pos rfl]
  ·rw [if_neg e]
   cases d8 kvs j with
   | none=>rfl
   | some x=>rw [Option.map_some,if_neg e]
 ·rw [if_neg a]
  refine qd k j y kvs ?_
  rw [jZ] at a
  cases q:d8 kvs k with
  | none=>rfl
  | some x=>rw [q] at a; exact (a rfl).elim
theorem iz (kvs:List (κ × V)) (k:κ) (v:V):(putK kvs k v).length≤kvs.length+1:=by
 unfold putK
 split
 ·rw [List.length_map]; omega
 ·rw [List.length_append,List.length_cons,List.length_nil]; omega
theorem wZ.isSome_eq {o:Option V} {u:Option Value} (r:wZ o u):o.isSome=u.isSome:=by
 cases o with
 | none=>cases u with
  | none=>rfl
  | some _=>exact (show False from r).elim
 | some _=>cases u with
  | none=>exact (show False from r).elim
  | some _=>rfl
theorem wZ.getD {o:Option V} {u:Option Value} {d:V} {d':Value} (r:wZ o u) (rd:RelV d d'):RelV (o.getD d) (u.getD d'):=by
 cases o with
 | none=>cases u with
  | none=>exact rd
  | some _=>exact (show False from r).elim
 | some _=>cases u with
  | none=>exact (show False from r).elim
  | some _=>exact r
theorem KV.val {kvs:List (κ × V)} {vs:List (κ × Value)} (r:KV kvs vs) (k:κ):wZ (d8 kvs k) (valueAt vs k):=by
 unfold KV at r
 induction r with
 | nil=>exact True.intro
 | @cons p q ps qs h t ih =>
  obtain ⟨h1,h2⟩:=h
  by_cases e:p.1=k
  ·have e':q.1=k:=h1.symm.trans e
   have b:valueAt (q :: qs) k=some q.2:=by simp [valueAt,List.find?_cons,e']
   rw [bh e,b]; exact h2
  ·have e':¬ q.1=k:=fun z=>e (h1.trans z)
   have b:valueAt (q :: qs) k=valueAt qs k:=by simp [valueAt,List.find?_cons,e']
   rw [aR e,b]; exact ih
theorem KV.any {kvs:List (κ × V)} {vs:List (κ × Value)} (r:KV kvs vs) (k:κ):(kvs.any fun kv=>decide (kv.1=k))=vs.any fun kv=>decide (kv.1=k):=by
 unfold KV at r
 induction r with
 | nil=>rfl
 | cons h t ih=>rw [List.any_cons,List.any_cons,ih,h.1]
theorem KV.repl {kvs:List (κ × V)} {vs:List (κ × Value)} (r:KV kvs vs) (k:κ) {y:V} {u:Value} (ry:RelV y u) :
  KV (kvs.map fun kv=>if kv.1=k then (kv.1,y) else kv) (vs.map fun kv=>if kv.1=k then (kv.1,u) else kv):=by
 unfold KV at r ⊢
 induction r with
 | nil=>exact .nil
 | @cons p q ps qs h t ih =>
  rw [List.map_cons,List.map_cons]
  refine .cons ?_ ih
  obtain ⟨h1,h2⟩:=h
  by_cases e:p.1=k
  ·rw [if_pos e,if_pos (h1.symm.trans e)]; exact ⟨h1,ry⟩
  ·rw [if_neg e,if_neg (fun z=>e (h1.trans z))]; exact ⟨h1,h2⟩
theorem KV.put {kvs:List (κ × V)} {vs:List (κ × Value)} (r:KV kvs vs) (k:κ) {y:V} {u:Value} (ry:RelV y u):KV (putK kvs k y) (stored vs k u):=by
 unfold putK stored
 rw [r.any k]
 by_cases e:(vs.any fun kv=>decide (kv.1=k))=true
 ·rw [if_pos e,if_pos e]; exact r.repl k ry
 ·rw [if_neg e,if_neg e]; exact Paired.snoc r ⟨rfl,ry⟩
theorem KV.keys {kvs:List (κ × V)} {vs:List (κ × Value)} (r:KV kvs vs):kvs.map (·.1)=vs.map (·.1):=by
 unfold KV at r
 induction r with
 | nil=>rfl
 | cons h t ih=>rw [List.map_cons,List.map_cons,ih,h.1]
theorem KV.length {kvs:List (κ × V)} {vs:List (κ × Value)} (r:KV kvs vs):kvs.length=vs.length:=Paired.length r
end
theorem zZ {P:Program} {w:World} {k:Key} {u:Value} (r:RelV (kV k) u):(cg P w).is k u=true:=by
 cases k with
 | inl i=>obtain ⟨t,e⟩:=(show ∃ t,u=Value.int i t from r); subst e; exact um P w i t
 | inr x=>obtain ⟨t,e⟩:=(show ∃ t,u=Value.str x t from r); subst e; exact sV P w x t
theorem rB {P:Program} {w:World}:∀ {ks:List Key} {us:List Value},Vals (ks.map kV) us→ItemsAre (cg P w) ks us
 | [],_,r=>by rw [List.map_nil] at r; cases r; exact .nil
 | k :: ks,_,r=>by
  rw [List.map_cons] at r
  cases r with
  | cons h t=>exact .cons (zZ h) (rB t)
abbrev KT (H:Hp):List (List Key × V)→List (List Key × Addr × Value)→Prop:=Paired fun p q=>p.1=q.1∧H q.2.1=some (.tup (p.1.map kV))∧RelV p.2 q.2.2
theorem KT.val {H:Hp} {kvs:List (List Key × V)} {xs:List (List Key × Addr × Value)} (r:KT H kvs xs) (k:List Key):wZ (d8 kvs k) ((atKey xs k).map (·.2)):=by
 induction r with
 | nil=>exact True.intro
 | @cons p q ps qs h t ih =>
  obtain ⟨h1,_,h2⟩:=h
  by_cases e:p.1=k
  ·have e':q.1=k:=h1.symm.trans e
   have b:atKey (q :: qs) k=some q.2:=by simp [atKey,List.find?_cons,e']
   rw [bh e,b]; exact h2
  ·have e':¬ q.1=k:=fun z=>e (h1.trans z)
   have b:atKey (q :: qs) k=atKey qs k:=by simp [atKey,List.find?_cons,e']
   rw [aR e,b]; exact ih
theorem KT.repl {H:Hp} {kvs:List (List Key × V)} {xs:List (List Key × Addr × Value)} (r:KT H kvs xs) (k:List Key) {y:V} {u:Value} (ry:RelV y u) :
  KT H (kvs.map fun kv=>if kv.1=k then (kv.1,y) else kv) (xs.map (putAt k u)):=by
 induction r with
 | nil=>exact .nil
 | @cons p q ps qs h t ih =>
  rw [List.map_cons,List.map_cons]
  refine .cons ?_ ih
  obtain ⟨h1,h2,h3⟩:=h
  unfold putAt
  by_cases e:p.1=k
  ·rw [if_pos e,if_pos (h1.symm.trans e)]; exact ⟨h1,h2,ry⟩
  ·rw [if_neg e,if_neg (fun z=>e (h1.trans z))]; exact ⟨h1,h2,h3⟩
theorem KT.put {H:Hp} {kvs:List (List Key × V)} {xs:List (List Key × Addr × Value)} (r:KT H kvs xs) (k:List Key) {b:Addr} {y:V} {u:Value} (hb:H b=some (.tup (k.map kV))) (ry:RelV y u) :
  KT H (putK kvs k y) (storedH xs k b u):=by
 have e:(kvs.any fun kv=>decide (kv.1=k))=(atKey xs k).isSome:=by
  rw [jZ,(r.val k).isSome_eq,Option.isSome_map]
 unfold putK storedH
 rw [e]
 by_cases q:(atKey xs k).isSome=true
 ·rw [if_pos q,if_pos q]; exact r.repl k ry
 ·rw [if_neg q,if_neg q]; exact Paired.snoc r ⟨rfl,hb,ry⟩
theorem KT.keeps {H H':Hp} {kvs:List (List Key × V)} {xs:List (List Key × Addr × Value)} (r:KT H kvs xs) (ht:∀ b ys,H b=some (.tup ys)→H' b=some (.tup ys)):KT H' kvs xs :=
 Paired.mapP r fun _ _ z=>⟨z.1,ht _ _ z.2.1,z.2.2⟩
section
variable {P:Program} {w:World} {H:Hp} {h:Heap} {a:Addr}
theorem J2 {u:HO} (ok:HOk P w H h) (e:Rd H a u):cF P w H h a u:=e.ok ok
theorem Bw {kvs:List (Key × V)} (ok:HOk P w H h) (e:Rd H a (.dK kvs)):kvs.length≤sizeLine∧(a == sysModules)=false∧∃ vs,KV kvs vs∧h.DictOf (cg P w) a vs :=
 show cF P w H h a (.dK kvs) from J2 ok e
theorem Mi {kvs:List (Key × V)} (ok:HOk P w H h) (e:H a=some (.dK kvs)):kvs.length≤sizeLine∧(a == sysModules)=false∧∃ vs,KV kvs vs∧h.DictOf (cg P w) a vs:=Bw ok (.inl e)
theorem vW {ks:List Key} (ok:HOk P w H h) (e:H a=some (.tup (ks.map kV))):(tupleKind (cg P w)).is h ks a:=by
 obtain ⟨_,its,r,o,h1,h2,n,h3⟩:=(show cF P w H h a (.tup (ks.map kV)) from ok a _ e)
 exact ⟨o,its.toArray,n,h1,h2,h3,by simpa using rB r⟩
theorem Ci {kvs:List (List Key × V)} (ok:HOk P w H h) (e:Rd H a (.dT kvs)):kvs.length≤sizeLine∧(a == sysModules)=false ∧
  ∃ xs,KT H kvs xs∧h.DictOfH (tupleKind (cg P w)) a xs:=by
 obtain ⟨z,y,xs,r,o,es,ep,h1,h2,h3,h4,h5⟩:=(show cF P w H h a (.dT kvs) from J2 ok e)
 refine ⟨z,y,xs,r,o,es,ep,h1,h2,h3,h4,fun x hx=>?_,h5⟩
 have all:∀ {l:List (List Key × V)} {m:List (List Key × Addr × Value)},KT H l m→∀ x∈m,(tupleKind (cg P w)).is h x.1 x.2.1:=by
  intro l m q
  induction q with
  | nil=>intro x hx; exact nomatch hx
  | @cons p q ps qs hq t ih =>
   intro x hx
   rcases List.mem_cons.mp hx with e | hx
   ·subst e
    exact vW ok (by rw [← hq.1]; exact hq.2.1)
   ·exact ih x hx
 exact all r x hx
theorem Pq {kvs:List (List Key × V)} (ok:HOk P w H h) (e:H a=some (.dT kvs)):kvs.length≤sizeLine∧(a == sysModules)=false ∧
  ∃ xs,KT H kvs xs∧h.DictOfH (tupleKind (cg P w)) a xs:=Ci ok (.inl e)
end
def dU (H:Hp) (a:Addr) (y:V) (r:Option V):Prop :=
 (∃ kvs k,Rd H a (.dK kvs)∧y=kV k∧r=d8 kvs k)∨∃ kvs k b,Rd H a (.dT kvs)∧y=.ref b∧H b=some (.tup (k.map kV))∧r=d8 kvs k
def rN (H:Hp) (a:Addr) (y v:V) (H':Hp):Prop :=
 (∃ kvs k,H a=some (.dK kvs)∧y=kV k∧kvs.length < sizeLine∧H'=upd H a (.dK (putK kvs k v))) ∨
 ∃ kvs k b,H a=some (.dT kvs)∧y=.ref b∧H b=some (.tup (k.map kV))∧kvs.length < sizeLine∧H'=upd H a (.dT (putK kvs k v))
theorem dU.k {H:Hp} {a:Addr} {kvs:List (Key × V)} {k:Key} (e:H a=some (.dK kvs)):dU H a (kV k) (d8 kvs k):=.inl ⟨kvs,k,.inl e,rfl,rfl⟩
theorem rN.k {H:Hp} {a:Addr} {kvs:List (Key × V)} {k:Key} {v:V} (e:H a=some (.dK kvs)) (hl:kvs.length < sizeLine):rN H a (kV k) v (upd H a (.dK (putK kvs k v))):=.inl ⟨kvs,k,e,rfl,hl,rfl⟩
section
variable {X:Cx} {pins:List (Addr × Obj)} {σ:St} {H:Hp} {s:Shared} {a:Addr} {y v:V} {u r:Value} {o:Option V} {A:Around} {E:Value→Shared→Prop}
theorem Inv.big (I:Inv X pins σ H s):sysModules < s.heap.objs.size:=by
 have h:mainGlobals < s.heap.objs.size:=(I.mod.glob.keeps I.bk).lt
 exact Nat.lt_trans (by decide) h
theorem zq {Q:Value→Shared→Prop} (hu:A.units+1 < cLine) (I:Inv X pins σ H s) (g:dU H a y (some v)) (ry:RelV y u) (h:∀ w' s',Inv X pins σ H s'→RelV v w'→Q w' s') :
  wpAny (model X.prog X.w) A (getItem (.ref a) u) Q E s:=by
 rcases g with ⟨kvs,k,e,ey,l⟩ | ⟨kvs,k,b,e,ey,eb,l⟩
 ·subst ey
  obtain ⟨z,hd,vs,rel,dd⟩:=Bw I.hok e
  obtain ⟨w',hw,rw'⟩:=wZ.some_of (v:=v) (o:=valueAt vs k) (by rw [l]; exact rel.val k)
  exact wpAny_getItem_of (zZ ry) dd.mapOf hw (h w' _ (I.tok _) rw')
 ·subst ey
  cases (show u=Value.ref b from ry)
  obtain ⟨z,hd,xs,rel,dd⟩:=Ci I.hok e
  obtain ⟨w',hw,rw'⟩:=wZ.some_of (v:=v) (o:=(atKey xs k).map (·.2)) (by rw [l]; exact rel.val k)
  obtain ⟨p,hp,hp2⟩:=Option.map_eq_some_iff.mp hw
  refine wpAny_getItem_heap (tupleKind_room_in1 hu) (vW I.hok eb) dd hp ?_
  rw [hp2]
  exact h w' _ (I.tok _) rw'
theorem sW {h':Heap} {t':Nat} {ob:HO} (I:Inv X pins σ H s) (mu:Mut (H a)) (hs:Heap.SameBut a s.heap h') (he:∃ q,h'.get? a=some q) (new:cF X.prog X.w (upd H a ob) h' a ob) :
  Inv X pins σ (upd H a ob) { s with heap:=h',toks:=t' } :=
 I.write (x:=a) (e:=a) mu (.inl rfl) (fun b q hb z=>(hs.2 b hb).trans z) he new
theorem Gg {P:Program} {w:World} {H':Hp} {h':Heap} {kvs:List (Key × V)} {vs:List (Key × Value)} (z:kvs.length≤sizeLine) (hd:(a == sysModules)=false) (rel:KV kvs vs) (dd:h'.DictOf (cg P w) a vs) :
  cF P w H' h' a (.dK kvs):=⟨z,hd,vs,rel,dd⟩
theorem Ck {H':Hp} {Q:Unit→Shared→Prop} (hu:A.units+1 < cLine) (I:Inv X pins σ H s) (g:rN H a y v H') (ry:RelV y u) (rv:RelV v r) (h:∀ s',Inv X pins σ H' s'→Q () s') :
  wpAny (model X.prog X.w) A (setItem (.ref a) u r) Q E s:=by
 rcases g with ⟨kvs,k,e,ey,l,eH⟩ | ⟨kvs,k,b,e,ey,eb,l,eH⟩
 ·subst ey eH
  obtain ⟨z,hd,vs,rel,dd⟩:=Mi I.hok e
  have hz:vs.length≤sizeLine:=by rw [← rel.length]; exact z
  have hl:(putK kvs k v).length≤sizeLine:=by have:=iz kvs k v; omega
  refine wpAny_setItem_pairs (hsz:=hz) (zZ ry) dd fun h' dd' hs=>h _ ?_
  have he:∃ q,h'.get? a=some q:=let ⟨q,_,_,hq,_⟩:=dd'; ⟨q,hq⟩
  exact sW I (by rw [e]; exact True.intro) hs he (Gg hl hd (rel.put k rv) dd')
 ·subst ey eH
  cases (show u=Value.ref b from ry)
  obtain ⟨z,hd,xs,rel,dd⟩:=Pq I.hok e
  have hz:xs.length≤sizeLine:=by rw [← Paired.length rel]; exact z
  have hl:(putK kvs k v).length≤sizeLine:=by have:=iz kvs k v; omega
  refine wpAny_setItem_heap (hsz:=hz) (tupleKind_room_in1 hu) (vW I.hok eb) dd fun h' dd' hs=>h _ ?_
  obtain ⟨q,es,ep,hq,h2,h3,h4,_,h5⟩:=dd'
  refine sW I (by rw [e]; exact True.intro) hs ⟨q,hq⟩ ⟨hl,hd,_,(rel.put k eb rv).keeps fun c ys ec=>?_,q,es,ep,hq,h2,h3,h4,h5⟩
  rw [aF (iC ec e (fun z=>nomatch z))]
  exact ec
end
section
variable {X:Cx} {pins:List (Addr × Obj)} {σ:St} {H:Hp} {s:Shared} {a:Addr} {kvs:List (Key × V)} {k:Key} {u:Value} {A:Around} {E:Value→Shared→Prop}
end
def Oh (i:Expr):Prop:=∀ ov iv,subscripted i false ov iv=operate [ov,iv] (getItem ov iv)
theorem Ba {prog:Program} {w:World} {A:Around} {E:Value→Shared→Prop} {s:Shared} {env:Env} {value slice:Expr} {pos:Pos} {T id:String} {Q:Value→Shared→Prop}
  (hl:typeLookup (.type T) "__getitem__" = pure (some (.builtin id))) (hs:Oh slice)
  (h:wpAny (model prog w) A (eval value env) (fun o s₁=>wpAny (model prog w) A (eval slice env) (fun i s₂=>s₂.TypeIs o T∧wpAny (model prog w) A (getItem o i) Q E s₂) E s₁) E s) :
  wpAny (model prog w) A (eval (.Subscript value slice pos) env) Q E s:=by
 refine Subscript_ (wpAny_mono h (fun o s₁ h₁=>wpAny_mono h₁ (fun i s₂ h₂=>?_) fun _ _ x=>x) fun _ _ x=>x)
 obtain ⟨hT,h₂⟩:=h₂
 unfold subscriptTail
 refine wpAny_bind ?_
 rw [getitemInPython_of_ne hT.not_modules]
 refine wpAny_bind (wpAny_specialOf hT hl ?_)
 have fin:wpAny (model prog w) A (subscripted slice false o i) (fun r s₃=>wpAny (model prog w) A (letTemporaryGo value o r >>= fun _=>pure r) Q E s₃) E s₂:=by
  rw [hs o i]
  exact wpAny_operating (wpAny_mono h₂ (fun r s₃ h₃=>wpAny_bind (wpAny_letTemporaryGo (wpAny_pure h₃))) fun _ _ x=>x)
 first
  | exact wpAny_pure (wpAny_bind fin)
  | exact wpAny_bind (wpAny_pure (wpAny_bind fin))
  | exact wpAny_bind fin
theorem tE {X:Cx} {pins:List (Addr × Obj)} {σ:St} {H:Hp} {s:Shared} {a:Addr} {y:V} {o:Option V} (I:Inv X pins σ H s) (g:dU H a y o):s.TypeIs (.ref a) "dict":=by
 rcases g with ⟨kvs,k,e,_,_⟩ | ⟨kvs,k,b,e,_,_,_⟩
 ·obtain ⟨_,_,vs,_,dd⟩:=Bw I.hok e
  exact dd.typeIs
 ·obtain ⟨_,_,xs,_,dd⟩:=Ci I.hok e
  exact dd.typeIs
def Oj (td ty:TE):TE:=fun σ H Q=>td σ H fun x H1=>ty σ H1 fun y H2=>∃ a v,x=.ref a∧dU H2 a y (some v)∧Q v H2
def Ow (td ty tv:TE):TS:=fun D σ H=>tv σ H fun v H1=>td σ H1 fun x H2=>ty σ H2 fun y H3=>∃ a H4,x=.ref a∧rN H3 a y v H4∧D.nx σ H4
section
variable {X:Cx} {o i e value:Expr} {pos pos' tpos:Pos} {td ty tv:TE}
theorem bA (hu:X.A.units+1 < cLine) (ho:PE X o td) (hi:PE X i ty) (hs:Oh i):PE X (.Subscript o i pos) (Oj td ty):=by
 intro pins s σ H Q I h
 refine Ba PySem.F.slot_dict_getitem.lookup hs (thn (ho pins s σ H _ I h) fun u s1 ⟨x,H1,I1,rx,q1⟩=>thn (hi pins s1 σ H1 _ I1 q1) fun iv s2 ⟨y,H2,I2,ry,a,v,ex,g,q2⟩=>?_)
 subst ex
 obtain rfl:u=Value.ref a:=rx
 exact ⟨tE I2 g,zq hu I2 g ry fun w' s3 I3 rw'=>⟨v,H2,I3,rw',q2⟩⟩
theorem dZ (hu:X.A.units+1 < cLine) (ho:PE X o td) (hi:PE X i ty) (hv:PE X value tv) (hs:swapsWith value (some (.Subscript o i pos')) pos.line X.env=pure false) :
  PS X (.Assign [.Subscript o i pos'] value pos) (Ow td ty tv):=by
 intro pins s σ H D I h
 refine wpAny_Assign_Subscript (thn (hv pins s σ H _ I h) fun r s1 ⟨v,H1,I1,rv,q1⟩=>thn (ho pins s1 σ H1 _ I1 q1) fun u s2 ⟨x,H2,I2,rx,q2⟩=>thn (hi pins s2 σ H2 _ I2 q2) fun iv s3 ⟨y,H3,I3,ry,a,H4,ex,g,q3⟩=>?_) hs
 subst ex
 obtain rfl:u=Value.ref a:=rx
 exact Ck hu I3 g ry rv fun s4 I4=>⟨σ,H4,I4,q3⟩
end
theorem u9 {P:Program} {w:World} {H:Hp} (h:Heap) (hb:sysModules < h.objs.size):cF P w H (h.push { cls:=.type "dict",data:=.dict #[] }) h.objs.size (.dK []) :=
 ⟨Nat.zero_le _,beq_eq_false_iff_ne.mpr (Ne.symm (Nat.ne_of_lt hb)),[],.nil,Heap.DictOf.new h⟩
def Lq:TE:=fun _ H Q=>∀ p,H p=none→Q (.ref p) (upd H p (.dK []))
section
variable {X:Cx} {pos:Pos}
theorem uH:PE X (.Dict [] [] pos) Lq:=fun pins s σ H Q I h =>
 wpAny_Dict_empty ⟨.ref s.heap.objs.size,_,I.laid (a:=s.heap.objs.size) (o:=.dK []) (t':=s.toks) (fun _ _ q=>Heap.get?_push_of_some _ q) (Nat.le_refl _) (u9 s.heap I.big),rfl,h _ (I.hok.fresh (Nat.le_refl _))⟩
end
def Bt:List (TE × TE)→St→Hp→(List (V × V)→Hp→Prop)→Prop
 | [],_,H,Q=>Q [] H
 | (tk,tv) :: r,σ,H,Q=>tk σ H fun x H1=>tv σ H1 fun y H2=>Bt r σ H2 fun ps H3=>Q ((x,y) :: ps) H3
abbrev VV:List (V × V)→List (Value × Value)→Prop:=Paired fun p q=>RelV p.1 q.1∧RelV p.2 q.2
def PPs (X:Cx) (pos:Pos) (keys:List (Option Expr)) (values:List Expr) (trs:List (TE × TE)):Prop :=
 ∀ (pins:List (Addr × Obj)) (s:Shared) (σ:St) (H:Hp) (Q:List (V × V)→Hp→Prop),Inv X pins σ H s→Bt trs σ H Q →
  wpAny (model X.prog X.w) X.A (evalPairs (pairTrees keys values X.env pos)) (fun vs s'=>∃ ps H',Inv X pins σ H' s'∧VV ps vs∧Q ps H') X.xe s
theorem tZ {X:Cx} {pos:Pos}:PPs X pos [] [] []:=fun pins s σ H Q I h=>pairTrees_nil_walk ⟨[],H,I,.nil,h⟩
theorem eY {X:Cx} {pos:Pos} {k v:Expr} {ks:List (Option Expr)} {vs:List Expr} {tk tv:TE} {trs:List (TE × TE)} (hk:PE X k tk) (hv:PE X v tv) (hr:PPs X pos ks vs trs) :
  PPs X pos (some k :: ks) (v :: vs) ((tk,tv) :: trs):=fun pins s σ H Q I h =>
 pairTrees_cons_walk (thn (hk pins s σ H _ I h) fun u s1 ⟨x,H1,I1,rx,q1⟩=>thn (hv pins s1 σ H1 _ I1 q1) fun w2 s2 ⟨y,H2,I2,ry,q2⟩ =>
  thn (hr pins s2 σ H2 _ I2 q2) fun ws s3 ⟨ps,H3,I3,rel,q3⟩=>⟨(x,y) :: ps,H3,I3,.cons ⟨rx,ry⟩ rel,q3⟩)
def gj (kvs more:List (Key × V)):List (Key × V):=more.foldl (fun acc kv=>putK acc kv.1 kv.2) kvs
theorem KV.merge:∀ {more:List (Key × V)} {rs:List (Key × Value)} {kvs:List (Key × V)} {vs:List (Key × Value)},KV more rs→KV kvs vs→KV (gj kvs more) (merged vs rs):=by
 intro more rs kvs vs r
 unfold KV at r
 induction r generalizing kvs vs with
 | nil=>intro q; exact q
 | @cons p q ps qs h t ih =>
  intro r0
  have e:KV (putK kvs p.1 p.2) (stored vs q.1 q.2):=by
   have:=r0.put p.1 h.2
   rw [← h.1]; exact this
  exact ih e
theorem jc:∀ (more kvs:List (Key × V)),(gj kvs more).length≤kvs.length+more.length
 | [],kvs=>by show kvs.length≤kvs.length+0; omega
 | p :: r,kvs=>by
  have h1:=jc r (putK kvs p.1 p.2)
  have h2:=iz kvs p.1 p.2
  show (gj (putK kvs p.1 p.2) r).length≤_
  rw [List.length_cons]; omega
theorem mY {P:Program} {w:World}:∀ {kvs:List (Key × V)} {ws:List (Value × Value)},VV (kvs.map fun kv=>(kV kv.1,kv.2)) ws→∃ rs,Carries (cg P w) ws rs∧KV kvs rs
 | [],_,r=>by rw [List.map_nil] at r; cases r; exact ⟨[],True.intro,.nil⟩
 | p :: kvs,_,r=>by
  rw [List.map_cons] at r
  cases r with
  | @cons a b as bs h t =>
   obtain ⟨rs,c,q⟩:=mY (P:=P) (w:=w) t
   obtain ⟨b1,b2⟩:=b
   exact ⟨(p.1,b2) :: rs,⟨zZ h.1,rfl,c⟩,.cons ⟨rfl,h.2⟩ q⟩
def Lx (trs:List (TE × TE)):TE:=fun σ H Q=>∀ p,H p=none→Bt trs σ (upd H p (.dK [])) fun ps H2=>H2 p=some (.dK [])∧∃ kvs:List (Key × V),ps=kvs.map (fun kv=>(kV kv.1,kv.2))∧kvs.length≤15∧Q (.ref p) (upd H2 p (.dK (gj [] kvs)))
theorem tM {X:Cx} {pos:Pos} {keys:List (Option Expr)} {values:List Expr} {trs:List (TE × TE)} (h:PPs X pos keys values trs) (hall:keys.all (·.isSome)=true) (hl:keys.length=values.length) (h0:keys≠[])
  (h15:keys.length≤15):PE X (.Dict keys values pos) (Lx trs):=by
 intro pins s σ H Q I q
 have hn:=I.hok.fresh (Nat.le_refl s.heap.objs.size)
 have I1:=I.laid (a:=s.heap.objs.size) (o:=.dK []) (h':=s.heap.push { cls:=.type "dict",data:=.dict #[] }) (t':=s.toks) (fun _ _ q=>Heap.get?_push_of_some _ q) (Nat.le_refl _) (u9 s.heap I.big)
 refine wpAny_Dict_walk (knd:=cg X.prog X.w) hall hl h0 h15 (thn (h pins _ σ _ _ I1 (q _ hn)) fun ws s2 ⟨ps,H2,I2,rel,e,kvs,ep,lk,q2⟩=>?_)
 subst ep
 obtain ⟨rs,c,rk⟩:=mY (P:=X.prog) (w:=X.w) rel
 obtain ⟨z,hd,vs0,r0,dd⟩:=Mi I2.hok e
 cases r0
 refine ⟨rs,c,dd,fun h' dd' hs=>⟨.ref s.heap.objs.size,_,?_,rfl,q2⟩⟩
 have hz:(gj [] kvs).length≤sizeLine:=by
  have h1:=jc kvs []
  rw [List.length_nil] at h1
  rw [sizeLine_eq]; omega
 have he:∃ q,h'.get? s.heap.objs.size=some q:=let ⟨q,_,_,hq,_⟩:=dd'; ⟨q,hq⟩
 exact sW I2 (by rw [e]; exact True.intro) hs he (Gg hz hd (rk.merge .nil) dd')
structure M1 (X:Cx) (o:Expr) (m:Str) (apos:Pos) (e:Expr) (cpos:Pos):Prop where
 base:attributeBase o m X.env (eval o X.env)=eval o X.env
 few:((backTo cpos (starEach [e] X.env)).all (fun x=>!x.1) && (backToKw cpos (keywordEach [] X.env)).all (fun x=>x.1.isSome)
  && decide (([e]:List Expr).length+([]:List Keyword).length+(if ([]:List Keyword).isEmpty then 0 else 1) < 30))=true
 line:(apos.endLine == cpos.line)=true
 trees:backTo cpos (starEach [e] X.env)=[(false,eval e X.env)]
structure M2 (X:Cx) (o:Expr) (m:Str) (apos:Pos) (e f:Expr) (cpos:Pos):Prop where
 base:attributeBase o m X.env (eval o X.env)=eval o X.env
 few:((backTo cpos (starEach [e,f] X.env)).all (fun x=>!x.1) && (backToKw cpos (keywordEach [] X.env)).all (fun x=>x.1.isSome)
  && decide (([e,f]:List Expr).length+([]:List Keyword).length+(if ([]:List Keyword).isEmpty then 0 else 1) < 30))=true
 line:(apos.endLine == cpos.line)=true
 trees:backTo cpos (starEach [e,f] X.env)=[(false,eval e X.env),(false,eval f X.env)]
def IsD (H:Hp) (a:Addr):Prop:=(∃ kvs,Rd H a (.dK kvs))∨∃ kvs,Rd H a (.dT kvs)
theorem Kw {X:Cx} {pins:List (Addr × Obj)} {σ:St} {H:Hp} {s:Shared} {a:Addr} (I:Inv X pins σ H s) (d:IsD H a) :
  s.TypeIs (.ref a) "dict"∧(∀ b,Value.ref a=.ref b→∃ ob,s.heap.get? b=some ob∧ob.dict=none)∧(a == sysModules)=false:=by
 rcases d with ⟨kvs,e⟩ | ⟨kvs,e⟩
 ·obtain ⟨_,hd,vs,_,dd⟩:=Bw I.hok e
  refine ⟨dd.typeIs,fun b q=>?_,hd⟩
  cases q
  obtain ⟨ob,_,_,h1,h2,_⟩:=dd
  exact ⟨ob,h1,h2.2.1⟩
 ·obtain ⟨_,hd,xs,_,dd⟩:=Ci I.hok e
  refine ⟨dd.typeIs,fun b q=>?_,hd⟩
  cases q
  obtain ⟨ob,_,_,h1,h2,_⟩:=dd
  exact ⟨ob,h1,h2.2.1⟩
section
variable {X:Cx} {pins:List (Addr × Obj)} {σ:St} {H:Hp} {s:Shared} {a:Addr} {y d:V} {u r:Value} {o:Option V} {A:Around} {E:Value→Shared→Prop}
theorem Mx {Q:Value→Shared→Prop} (hu:A.units+1 < cLine) (I:Inv X pins σ H s) (g:dU H a y o) (ry:RelV y u) (rd:RelV d r) (h:∀ w' s',Inv X pins σ H s'→RelV (o.getD d) w'→Q w' s') :
  wpAny (model X.prog X.w) A (call (.builtin "dict.get") [.ref a,u,r]) Q E s:=by
 rcases g with ⟨kvs,k,e,ey,l⟩ | ⟨kvs,k,b,e,ey,eb,l⟩
 ·subst ey
  obtain ⟨z,hd,vs,rel,dd⟩:=Bw I.hok e
  refine call_meetsIn PySem.F.slot_dict_get dd.typeIs PySem.F.entry_dict_get (PySem.F.args_dict_get_3 _ _ _) (meets_dict_get_default (cg X.prog X.w) a (zZ ry) hd r) ⟨_,dd.mapOf,h _ _ (I.tok _) ?_⟩
  rw [l]
  exact (rel.val k).getD rd
 ·subst ey
  cases (show u=Value.ref b from ry)
  obtain ⟨z,hd,xs,rel,dd⟩:=Ci I.hok e
  refine call_meetsIn PySem.F.slot_dict_get dd.typeIs PySem.F.entry_dict_get (PySem.F.args_dict_get_3 _ _ _) (meetsH_dict_get_default (tupleKind (cg X.prog X.w)) a b hd r) ⟨tupleKind_room_in1 hu,k,xs,vW I.hok eb,dd,h _ _ (I.tok _) ?_⟩
  rw [l]
  exact (rel.val k).getD rd
end
def Kd (td ty tx:TE):TE:=fun σ H Q=>td σ H fun x H1=>∃ a,x=.ref a∧IsD H1 a∧ty σ H1 fun y H2=>tx σ H2 fun z H3=>∃ o,dU H3 a y o∧Q (o.getD z) H3
section
variable {X:Cx} {o e f:Expr} {apos cpos:Pos} {td ty tx:TE}
theorem FQ (hu:X.A.units+1 < cLine) (ho:PE X o td) (he:PE X e ty) (hf:PE X f tx) (m:M2 X o "get" apos e f cpos):PE X (.Call (.Attribute o "get" apos) [e,f] [] cpos) (Kd td ty tx):=by
 intro pins s σ H Q I h
 refine wpAny_Call_method m.base m.few m.line PySem.F.plainAttrs_dict PySem.F.slot_dict_get PySem.F.type_dict_get (thn (ho pins s σ H _ I h) fun u s1 ⟨x,H1,I1,rx,a,ex,d,q1⟩=>?_)
 subst ex
 obtain rfl:u=Value.ref a:=rx
 obtain ⟨t1,t2,_⟩:=Kw I1 d
 refine ⟨t1,t2,?_⟩
 rw [m.trees]
 refine Calls.callWith_builtin rfl (Calls.evalArgs_plain (Calls.spliced_cons (thn (he pins s1 σ H1 _ I1 q1) fun iv s2 ⟨y,H2,I2,ry,q2⟩ =>
  Calls.spliced_cons (thn (hf pins s2 σ H2 _ I2 q2) fun fv s3 ⟨z,H3,I3,rz,ov,g,q3⟩=>Calls.spliced_nil ?_))))
 exact Mx hu I3 g ry rz fun w' s4 I4 rw'=>⟨_,H3,I4,rw',q3⟩
end
section
variable {X:Cx} {pins:List (Addr × Obj)} {σ:St} {H:Hp} {s:Shared} {a:Addr} {kvs:List (Key × V)} {A:Around} {E:Value→Shared→Prop}
end
section
variable {X:Cx} {pins:List (Addr × Obj)} {σ:St} {H:Hp} {s:Shared} {a:Addr} {y:V} {u:Value} {A:Around} {E:Value→Shared→Prop}
end
end L2
namespace MD
open PySem
abbrev kwD (d:Value):List (Str × Value):=[(Str.ofString "default",d)]
section
variable {prog:Program} {w:World} {A:Around} {R:Result→Shared→Prop} {It:Addr} {fp wr:List Addr} {n:Nat} {Pr:Nat→Value→Prop} {Sx:Nat→Heap→Prop}
end
section
variable {prog:Program} {w:World} {A:Around} {E:Value→Shared→Prop} {s:Shared}
end
end MD
namespace MQ
open PySem
theorem Ov:typeLookup (.type "list") "keys" = pure none:=am_miss_of_fast (by decide +kernel)
end MQ
namespace DP
open PySem
section
variable {prog:Program} {w:World} {K:Type} [DecidableEq K] {knd:KeyKind prog w K} {A:Around} {R:Result→Shared→Prop} {It:Addr} {fp wr:List Addr} {n:Nat} {Pr:Nat→Value→Prop} {Sx:Nat→Heap→Prop}
end
end DP
namespace DP
open PySem
section
variable {prog:Program} {w:World} {K:Type} [DecidableEq K] {knd:KeyKind prog w K} {A:Around} {E:Value→Shared→Prop} {s:Shared}
end
end DP
namespace L2
open PySem PySem.Spec PyProof.Rows
def Prs (H:Hp):List V→List (Key × V)→Prop:=Paired fun v kv=>∃ p:Addr,v=.ref p∧H p=some (.tup [kV kv.1,kv.2])
end L2
namespace L2
open PySem PySem.Spec PyProof.Rows
theorem BW (y z:Str) (i:Nat) (hi:i≤y.length):(decide (i+z.length≤y.length) && Builtin.Str.subAt y z i)=z.cps.toList.isPrefixOf (y.cps.toList.drop i):=by
 rw [Bool.eq_iff_iff,List.isPrefixOf_iff_prefix,List.prefix_iff_eq_take,Bool.and_eq_true,decide_eq_true_eq]
 unfold Builtin.Str.subAt
 have hz:z.cps.toList.length=z.length:=by simp [Str.length]
 have hy:y.cps.toList.length=y.length:=by simp [Str.length]
 have e:(y.cps.extract i (i+z.length)).toList=(y.cps.toList.drop i).take z.length:=by
  rw [Array.toList_extract,List.extract_eq_take_drop]
  congr 1
  omega
 rw [beq_iff_eq]
 constructor
 ·rintro ⟨_,h⟩
  rw [hz,← e,h]
 ·intro h
  rw [hz] at h
  refine ⟨?_,?_⟩
  ·have:=congrArg List.length h
   rw [List.length_take,List.length_drop,hz,hy] at this
   omega
  ·apply Array.toList_inj.mp
   rw [e]
   exact h.symm
end L2
namespace M08
def lng (t:List Nat):List (List Nat)→Nat
 | []=>0
 | c :: cs=>max (if c.isPrefixOf t=true then c.length else 0) (lng t cs)
def ended (ms ks:List (List Nat)) (t:List Nat):Nat:=if lng t ks=0 then lng t ms else 0
def Eh (ms ks:List (List Nat)) (t:List Nat):Nat:=max (max (lng t ks) (ended ms ks t)) 1
def Nq (ms ks:List (List Nat)):Nat→List Nat→List Nat→List (List Nat)
 | _,acc,[]=>if acc=[] then [] else [acc]
 | 0,_,_ :: _=>[]
 | n+1,acc,c :: r =>
  if ended ms ks (c :: r)=0 then Nq ms ks n (acc++(c :: r).take (Eh ms ks (c :: r))) ((c :: r).drop (Eh ms ks (c :: r)))
  else (acc++(c :: r).take (Eh ms ks (c :: r))) :: Nq ms ks n [] ((c :: r).drop (Eh ms ks (c :: r)))
end M08
namespace SLi
open PySem
theorem clip (a b n:Nat):Builtin.Str.strSliceIndices (some (a:Int)) (some (b:Int)) 1 n=Builtin.Str.strSliceIndices (some ((min a n:Nat):Int)) (some ((min b n:Nat):Int)) 1 n:=by
 have e1:¬ ((a:Int) < 0):=by omega
 have e2:¬ ((b:Int) < 0):=by omega
 have e3:¬ (((min a n:Nat):Int) < 0):=by omega
 have e4:¬ (((min b n:Nat):Int) < 0):=by omega
 have h1:max (0:Int) (min (a:Int) (n:Int))=max 0 (min ((min a n:Nat):Int) (n:Int)):=by omega
 have h2:max (0:Int) (min (b:Int) (n:Int))=max 0 (min ((min b n:Nat):Int) (n:Int)):=by omega
 simp only [Builtin.Str.strSliceIndices,e1,e2,e3,e4,if_false,h1,h2]
 rfl
theorem both (x:Str) {a b:Nat} (h:a≤b):Txt.slice x (some (a:Int)) (some (b:Int))=⟨((x.cps.toList.drop a).take (b - a)).toArray⟩:=by
 have hl:x.cps.toList.length=x.length:=by simp [Str.length]
 have e:Txt.slice x (some (a:Int)) (some (b:Int))=Txt.slice x (some ((min a x.length:Nat):Int)) (some ((min b x.length:Nat):Int)):=by
  unfold Txt.slice
  rw [clip]
 rw [e]
 have p:=StrLaws.sliceText_plain (x:=x) (i:=((min a x.length:Nat):Int)) (j:=((min b x.length:Nat):Int)) ⟨by omega,by omega,by omega⟩
 have p':Txt.slice x (some ((min a x.length:Nat):Int)) (some ((min b x.length:Nat):Int))=_:=p
 rw [p']
 congr 1
 have e1:(((min a x.length:Nat):Int)).toNat=min a x.length:=by omega
 have e2:(((min b x.length:Nat):Int) - ((min a x.length:Nat):Int)).toNat=min b x.length - min a x.length:=by omega
 rw [e1,e2]
 congr 1
 by_cases ha:a≤x.length
 ·rw [Nat.min_eq_left ha]
  by_cases hb:b≤x.length
  ·rw [Nat.min_eq_left hb]
  ·rw [Nat.min_eq_right (by omega)]
   rw [List.take_of_length_le (by rw [List.length_drop]; omega),List.take_of_length_le (by rw [List.length_drop]; omega)]
 ·rw [Nat.min_eq_right (by omega),List.drop_eq_nil_of_le (by omega),List.drop_eq_nil_of_le (by omega)]
  simp
theorem upto (x:Str) (b:Nat):Txt.slice x none (some (b:Int))=⟨(x.cps.toList.take b).toArray⟩:=by
 have e:Txt.slice x none (some (b:Int))=Txt.slice x (some ((0:Nat):Int)) (some (b:Int)):=by
  unfold Txt.slice
  rw [StrLaws.sliceIdx_none_lo]
  rfl
 rw [e,both x (Nat.zero_le b)]
 simp
theorem from_ (x:Str) (a:Nat):Txt.slice x (some (a:Int)) none=⟨(x.cps.toList.drop a).toArray⟩:=by
 have hl:x.cps.toList.length=x.length:=by simp [Str.length]
 have e:Txt.slice x (some (a:Int)) none=Txt.slice x (some (a:Int)) (some (x.length:Int)):=by
  unfold Txt.slice
  rw [StrLaws.sliceIdx_none_hi]
 rw [e]
 by_cases h:a≤x.length
 ·rw [both x h,List.take_of_length_le (by rw [List.length_drop]; omega)]
 ·have e2:Txt.slice x (some (a:Int)) (some (x.length:Int))=Txt.slice x (some ((x.length:Nat):Int)) (some (x.length:Int)):=by
   unfold Txt.slice
   rw [clip,clip x.length x.length]
   rw [Nat.min_eq_right (by omega:x.length≤a),Nat.min_self]
  rw [e2,both x (Nat.le_refl _),List.drop_eq_nil_of_le (by omega:x.cps.toList.length≤a),Nat.sub_self]
  simp
end SLi
namespace L2
open PySem PySem.Spec PyProof.Rows M08
abbrev mkT (r:List Nat):V:=V.str ⟨r.toArray⟩
abbrev sD (r:List Nat):D:=.str ⟨r.toArray⟩
structure OkC (cs:List (List Nat)):Prop where
 few:cs.length≤100
 size:∀ c∈cs,1≤c.length∧c.length≤8
theorem Q7 {cs:List (List Nat)} {i:Nat} (hi:i < cs.length):(cs.map mkT)[i]?=some (mkT cs[i]):=by
 rw [List.getElem?_map,List.getElem?_eq_getElem hi]
 rfl
theorem gO (t:List Nat) (b:Nat):Txt.slice ⟨t.toArray⟩ none (some (b:Int))=⟨(t.take b).toArray⟩:=by
 rw [SLi.upto]
theorem jT (t:List Nat) (a:Nat):Txt.slice ⟨t.toArray⟩ (some (a:Int)) none=⟨(t.drop a).toArray⟩:=by
 rw [SLi.from_]
theorem bx {α:Type} (x:α) (xs:List α):atI (x :: xs) 0=some x:=aW (xs:=x :: xs) (j:=0) rfl
end L2
namespace L2
open PySem PySem.Spec PyProof.Rows M08
end L2
namespace M08
end M08
namespace M05
def nmN:Nat→Nat→List Nat
 | 0,_=>[]
 | f+1,r=>if r=0 then [] else nmN f ((r - 1) / 26)++[97+(r - 1) % 26]
def nm (r:Nat):List Nat:=nmN r r
end M05
namespace M05
end M05
namespace L2
open PySem PySem.Spec PyProof.Rows
def N7:R2:=fun x y H Q=>∃ (a b:Addr) (xs ys:List V),x=.ref a∧y=.ref b∧H a=some (.tup xs)∧H b=some (.tup ys)∧xs.length+ys.length≤sizeLine∧∀ (q:Addr) (H':Hp),Same H H'→H' q=some (.tup (xs++ys))→Q (.ref q) H'
theorem je {X:Cx}:OpR X (binaryOp .Add) N7:=by
 intro pins s σ H x y v u Q I rx ry h
 obtain ⟨a,b,xs,ys,rfl,rfl,ha,hb,hz,q⟩:=h
 cases xs with
 | cons x1 xs =>
  refine xX pins s σ H (.ref a) (.ref b) v u Q I rx ry ⟨a,b,_,_,rfl,rfl,SqT.of ha,SqT.of hb,by simp,hz,fun z=>?_,fun z p hp=>q p _ (aq hp _) ak⟩
  refine q a H (Same.refl H) ?_
  rw [ha,z,List.append_nil]
 | nil =>
  cases rx
  cases ry
  obtain ⟨its,r1,p1,_⟩:=I.tuple (SqT.of (K:=X.K) ha)
  obtain ⟨its2,r2,p2,_⟩:=I.tuple (SqT.of (K:=X.K) hb)
  cases r1
  obtain ⟨⟨cls,dd,data,sl⟩,ho,hc,n,hd⟩:=id p1
  obtain ⟨⟨cls2,dd2,data2,sl2⟩,ho2,hc2,n2,hd2⟩:=id p2
  simp only at hc hd hc2 hd2
  subst hc hd hc2 hd2
  refine concat_meets ⟨_,ho,rfl⟩ ⟨_,ho2,rfl⟩ noFill_tuple_add seq_tuple_add PySem.F.slot_tuple_add PySem.F.entry_tuple_add (PySem.F.args_tuple_add_2 _ _) (tuple_addW0 a b _ its2.toArray n n2 dd dd2 sl sl2 rfl) ⟨ho,ho2,?_⟩
  exact ⟨.ref b,H,I,rfl,q b H (Same.refl H) hb⟩
theorem zF (a:Str):∀ xs:List Str,inV (.str a) (xs.map V.str)=decide (a∈xs)
 | []=>rfl
 | x :: xs=>by
  have ih:=zF a xs
  unfold inV at ih ⊢
  rw [List.map_cons,List.any_cons,ih]
  show (x == a || decide (a∈xs))=_
  rw [Bool.eq_iff_iff,Bool.or_eq_true,decide_eq_true_eq,decide_eq_true_eq,List.mem_cons,beq_iff_eq]
  constructor
  ·rintro (h | h)
   ·exact .inl h.symm
   ·exact .inr h
  ·rintro (h | h)
   ·exact .inl h.symm
   ·exact .inr h
end L2
namespace ET
open PySem
open Sem (wp)
open AutoSeq1 (wpAny_loadPart')
end ET
namespace L2
open PySem PySem.Spec PyProof.Rows
theorem jg {prog:Program} {w:World} {A:Around} {E:Value→Shared→Prop} {s:Shared} {t sl:Addr} {items:Array Value} {vl vu:Value} {lo hi:Option Int} {Q:Value→Shared→Prop} (ht:IsTup s.heap t items) (hs:s.heap.IsSliceOf sl vl vu .none) (pl:IsPart vl lo) (pu:IsPart vu hi)
  (hw:HT.sIx items.size 0 lo=0∧HT.sIx items.size items.size hi=items.size) (h:Q (.ref t) s):wpAny (model prog w) A (getItem (.ref t) (.ref sl)) Q E s:=by
 obtain ⟨os,hos,hcs,hds⟩:=id hs
 have hTs:s.TypeIs (.ref sl) "slice":=⟨os,hos,hcs⟩
 unfold getItem
 try with_reducible refine wpAny_holding ?_
 first | refine wpAny_bind (wpAny_pure ?_) | skip
 refine wpAny_bind (wpAny_sequenceKey ht.typeIs (by decide) ?_)
 refine wpAny_bind (wpAny_callSpecial?_slot (name:=Str.ofString "__getitem__") ht.typeIs PyProof.Rows.slot_tuple_getitem
  (wpAny_call_entry PyProof.Rows.slot_tuple_getitem ht.typeIs PyProof.Rows.entry_tuple_getitem ?_ (PyProof.Rows.args_tuple_getitem _ _)))
 show wpAny _ _ (Builtin.Tuple.tupleItemsOf (.ref t) >>= _) _ _ s
 refine wpAny_bind (PyProof.Rows.tupleItemsOf_ ht ?_)
 refine wpAny_bind (wpAny_typeOf hTs ?_)
 rw [if_pos (by decide)]
 refine wpAny_bind (HT.fP hs pl pu ?_)
 have hno:(((HT.sIx items.size 0 lo:Nat):Int) == 0 && (1:Int) == 1 && (HT.sIx items.size items.size hi - HT.sIx items.size 0 lo) == items.size)=true:=by
  rw [hw.1,hw.2]
  simp
 show wpAny _ _ (if (((HT.sIx items.size 0 lo:Nat):Int) == 0 && (1:Int) == 1 && (HT.sIx items.size items.size hi - HT.sIx items.size 0 lo) == items.size)=true then _ else _) _ _ s
 rw [if_pos hno]
 refine wpAny_bind (m:=Builtin.Tuple.tupleIsExact _) (wpAny_bind (wpAny_typeOf ht.typeIs (wpAny_pure ?_)))
 rw [if_pos (by decide)]
 exact wpAny_bind (wpAny_rule (wpAny_pure ⟨_,rfl,wpAny_pure h⟩))
def Pj (K:PySem.W.Frag):V→Option Int→Option Int→Hp→VK→Prop:=fun x lo hi H Q=>∃ a xs,x=.ref a∧H a=some (.tup xs)∧∀ (p:Addr) (H':Hp),Same H H'→H' p=some (.tup (rM xs lo hi))→Q (.ref p) H'
theorem nU {X:Cx}:SlR X (Pj X.K):=by
 intro pins s σ H x v vl vu lo hi sl Q I rx hs pl pu h
 obtain ⟨a,xs,rfl,hx,q⟩:=h
 by_cases hw:HT.sIx xs.length 0 lo=0∧HT.sIx xs.length xs.length hi=xs.length
 ·cases rx
  obtain ⟨its,r,ht,hz⟩:=I.tuple (SqT.of hx)
  have hlen:its.toArray.size=xs.length:=by rw [List.size_toArray]; exact r.length.symm
  refine ⟨"tuple",_,PyProof.Rows.slot_tuple_getitem.lookup,ht.typeIs,?_⟩
  refine jg ht hs pl pu (by rw [hlen]; exact hw) ⟨.ref a,H,I,rfl,q a H (Same.refl H) ?_⟩
  rw [hx]
  unfold rM
  rw [hw.1,hw.2,List.drop_zero,Nat.sub_zero,List.take_length]
 ·exact Mv pins s σ H _ v vl vu lo hi sl Q I rx hs pl pu ⟨a,xs,rfl,SqT.of hx,hw,fun p hp=>q p _ (aq hp _) ak⟩
end L2
namespace L2
open PySem PySem.Spec PyProof.Rows
def QW:R2:=fun x y H Q=>∃ (l b:Addr) (xs:List V),x=.ref l∧y=.ref b∧H l=some (.lst xs)∧H b=some (.lst [])∧Q (.bl (!xs.isEmpty)) H
theorem Cm {X:Cx} (hu:X.A.units < cLine):OpR X (compareOp .NotEq) QW:=by
 intro pins s σ H x y v u Q I rx ry h
 obtain ⟨l,b,xs,rfl,rfl,hl,hb,q⟩:=h
 cases rx
 cases ry
 obtain ⟨its,r1,p1,_⟩:=I.list (SqL.of (K:=X.K) hl)
 obtain ⟨its2,r2,p2,_⟩:=I.list (SqL.of (K:=X.K) hb)
 cases r2
 cases r1 with
 | nil=>exact SeqAt.RcNeAt.lists (e:=fun _=>true) p1.isList p2.isList rfl hu (fun j h1 _=>absurd h1 (Nat.not_lt_zero j)) X.prog X.w _ _ ⟨.bl false,H,I,rfl,q⟩
 | cons _ _=>exact SeqAt.RcNeAt.lists_lengths p1.isList p2.isList (by simp) hu X.prog X.w _ _ ⟨.bl true,H,I,rfl,q⟩
end L2
namespace DR
open PySem PySem.W
open Sem (wp)
def Raw (g:Heap) (d:Addr) (es:Array DictEntry) (ep:Nat):Prop:=∃ o,g.get? d=some o∧o.ExactDict∧o.data=.dict es ep
section
variable {prog:Program} {w:World} {A:Around} {E:Value→Shared→Prop} {s:Shared} {it dd:Addr} {es:Array DictEntry} {i ep:Nat}
theorem Raw.typeIs (r:Raw s.heap dd es ep):s.TypeIs (.ref dd) "dict":=by
 obtain ⟨o,eo,ec,ed⟩:=r
 exact ⟨o,eo,ec.1⟩
theorem Raw.at {g g':Heap} (r:Raw g dd es ep) (k:∀ o,g.get? dd=some o→g'.get? dd=some o):Raw g' dd es ep:=by
 obtain ⟨o,eo,x⟩:=r
 exact ⟨o,k o eo,x⟩
end
end DR
namespace L2
open PySem PySem.Spec PyProof.Rows
end L2
namespace SX
open PySem PySem.Spec PyProof.Rows
theorem sub_tuple_set:isSubtype (.type "tuple") (.type "set")=pure false:=by rw [isSubtype_type]; kernel_rfl
theorem sub_tuple_frozenset:isSubtype (.type "tuple") (.type "frozenset")=pure false:=by rw [isSubtype_type]; kernel_rfl
def have_ {K:Type} [DecidableEq K] (val:Nat→K) (i:Nat) (k:K):Bool:=((List.range i).map val).any fun y=>decide (y=k)
theorem Cw {K:Type} [DecidableEq K] (val:Nat→K) (i:Nat) (k:K):have_ val (i+1) k=(have_ val i k || decide (k=val i)):=by
 unfold have_
 rw [List.range_succ,List.map_append,List.any_append]
 congr 1
 simp [eq_comm]
def many {K:Type} [DecidableEq K] (val:Nat→K):Nat→Nat
 | 0=>0
 | i+1=>if have_ val i (val i)=true then many val i else many val i+1
theorem Bf {K:Type} [DecidableEq K] (val:Nat→K):∀ i,many val i≤i
 | 0=>Nat.le_refl _
 | i+1=>by
  have:=Bf val i
  unfold many
  split <;> omega
section
variable {prog:Program} {w:World} {A:Around} {R:Result→Shared→Prop} {I:Addr} {fp wr:List Addr} {G:Array GenState→Array GenState→Prop} {n:Nat} {P:Nat→Value→Prop} {St:Nat→Shared→Prop} {K:Type} [DecidableEq K] {knd:KeyKind prog w K}
theorem fill (W:WalksS prog w A.in1 I fp wr G n P St) (S:Addr) (nf:S ∉ fp) (val:Nat→K) (hv:∀ i v,P i v→knd.is (val i) v=true∧v.scannable=true) (room:n+1 < scanBound) :
  ∀ (k i:Nat) (s:Shared),n - i=k→i≤n→St i s→s.heap.SetOf knd S (have_ val i) (many val i)→(∀ s',Moved (S :: wr) G s s'→s'.heap.SetOf knd S (have_ val n) (many val n)→R (.ok (.ret .none)) s') →
   codeAny (model prog w) A (.builtin "set.update.loop" ⟨[.ref S,.ref I],[]⟩) R s:=by
 have nw:S ∉ wr:=fun z=>nf (W.sub _ z)
 have sub:∀ b∈wr,b∈S :: wr:=fun b z=>List.mem_cons_of_mem _ z
 intro k
 induction k with
 | zero =>
  intro i s ek le st hS q
  have e:i=n:=by omega
  subst e
  refine codeAny_builtin F.entry_set_update_loop ?_
  rw [Around.under_plainId F.plain_set_update_loop _]
  show wpAny _ A.in1 (pyNext (.ref I) >>= _) _ _ _
  refine wpAny_bind (W.done s _ _ st fun s' mv=>?_)
  show wpAny _ A.in1 (ret Value.none) _ _ _
  refine wpAny_pure (q s' (mv.mono sub) ?_)
  obtain ⟨o,es,ep,t,eo,rest⟩:=hS
  exact ⟨o,es,ep,t,mv.heap S _ nw eo,rest⟩
 | succ k ih =>
  intro i s ek le st hS q
  have lt:i < n:=by omega
  refine codeAny_builtin F.entry_set_update_loop ?_
  rw [Around.under_plainId F.plain_set_update_loop _]
  show wpAny _ A.in1 (pyNext (.ref I) >>= _) _ _ _
  refine wpAny_bind (W.item i s _ _ lt st fun v s' hP st' mv=>?_)
  obtain ⟨hk,hsc⟩:=hv i v hP
  have hS':s'.heap.SetOf knd S (have_ val i) (many val i):=by
   obtain ⟨o,es,ep,tb,eo,rest⟩:=hS
   exact ⟨o,es,ep,tb,mv.heap S _ nw eo,rest⟩
  show wpAny _ A.in1 (holding [v] (setAdd S v) >>= _) _ _ _
  refine wpAny_bind (wpAny_holding ?_)
  unfold setAdd
  refine wpAny_holding (wpAny_bind (knd.pyHash hk ?_))
  refine wpAny_setAddHashed_of (knd:=knd) (s:={ s' with toks:=s'.toks+1 }) hk hsc hS' (Nat.lt_of_le_of_lt (Nat.succ_le_succ (Bf val i)) (by omega)) fun g sb hS2=>?_
  have hSi:g.SetOf knd S (have_ val (i+1)) (many val (i+1)):=by
   have e:(fun k'=>have_ val i k' || decide (k'=val i))=have_ val (i+1):=funext fun k'=>(Cw val i k').symm
   rw [← e]
   exact hS2
  refine wpAny_pure ⟨plainId_quiet F.plain_set_update_loop _,ih (i+1) _ (by omega) lt (W.frame _ s' _ _ st' (Nat.le_succ _) fun b hb o e=>?_) hSi fun s'' mv2 hS''=>?_⟩
  ·rw [sb.2 b fun z=>nf (z ▸ hb)]
   exact e
  ·refine q s'' (Moved.trans W.gtrans ((mv.mono sub).then_heap (Nat.le_succ _) fun b o hb e=>?_) mv2) hS''
   rw [sb.2 b fun z=>hb (by rw [z]; exact List.mem_cons_self)]
   exact e
end
end SX
namespace L2
open PySem PySem.Spec PyProof.Rows
end L2
namespace L2
open PySem PySem.Spec PyProof.Rows
theorem Av {X:Cx} {pins:List (Addr × Obj)} {σ:St} {H:Hp} {s:Shared} (I:Inv X pins σ H s):∀ (n:Nat) (d:D) (A:Around) (x y:V) (v u:Value),eO n d→Den H x d→Den H y d→RelV x v→RelV y u→A.units+n < cLine→SeqAt.EqAt A s v u true
 | _,.non,A,x,y,v,u,hs,hx,hy,rx,ry,hu=>absurd rfl hs.ne
 | _,.bl b,A,x,y,v,u,hs,hx,hy,rx,ry,hu=>by
  have e1:x=.bl b:=hx
  have e2:y=.bl b:=hy
  subst e1
  subst e2
  cases rx
  cases ry
  exact SeqAt.EqAt.same _
 | _,.int i,A,x,y,v,u,hs,hx,hy,rx,ry,hu=>by
  have e1:x=.int i:=hx
  have e2:y=.int i:=hy
  subst e1
  subst e2
  obtain ⟨t,rfl⟩:=rx
  obtain ⟨t',rfl⟩:=ry
  have:=SeqAt.EqAt.int_int (A:=A) (s:=s) i t i t'
  simpa using this
 | _,.str z,A,x,y,v,u,hs,hx,hy,rx,ry,hu=>by
  have e1:x=.str z:=hx
  have e2:y=.str z:=hy
  subst e1
  subst e2
  obtain ⟨t,rfl⟩:=rx
  obtain ⟨t',rfl⟩:=ry
  have:=SeqAt.EqAt.str_str (A:=A) (s:=s) z t z t'
  simpa using this
 | 0,.tup ds,A,x,y,v,u,hs,hx,hy,rx,ry,hu=>absurd rfl (hs.2 ds)
 | n+1,.tup ds,A,x,y,v,u,hs,hx,hy,rx,ry,hu=>by
  obtain ⟨a,vs,rfl,ha,hda⟩:=aN hx
  obtain ⟨b,us,rfl,hb,hdb⟩:=aN hy
  cases rx
  cases ry
  by_cases hab:a=b
  ·subst hab
   exact SeqAt.EqAt.same _
  ·obtain ⟨its,r1,p1,_⟩:=I.tuple (SqT.of (K:=X.K) ha)
   obtain ⟨its2,r2,p2,_⟩:=I.tuple (SqT.of (K:=X.K) hb)
   have l1:=hda.len
   have l2:=hdb.len
   have m1:=r1.length
   have m2:=r2.length
   have key:=SeqAt.EqAt.of_refs hab (SeqAt.RcAt.tuples (A:=A) (s:=s) (e:=fun _=>true) p1 p2 (by omega) fun j h1 h2=>?_)
   ·have e:((List.range (min its.toArray.size its2.toArray.size)).all (fun _=>true) && its.toArray.size == its2.toArray.size)=true:=by
     simp
     omega
    rw [e] at key
    exact key
   ·have hj1:j < vs.length:=by simpa [m1] using h1
    have hj2:j < us.length:=by simpa [m2] using h2
    obtain ⟨d1,g1,b1⟩:=hda.at_ (List.getElem?_eq_getElem hj1)
    obtain ⟨d2,g2,b2⟩:=hdb.at_ (List.getElem?_eq_getElem hj2)
    rw [g1] at g2
    cases g2
    obtain ⟨w1,hw1,rw1⟩:=r1.get (List.getElem?_eq_getElem hj1)
    obtain ⟨w2,hw2,rw2⟩:=r2.get (List.getElem?_eq_getElem hj2)
    have q1:its.toArray[j]=w1:=by
     have:=(List.getElem?_eq_some_iff.mp hw1).2
     simpa using this
    have q2:its2.toArray[j]=w2:=by
     have:=(List.getElem?_eq_some_iff.mp hw2).2
     simpa using this
    rw [q1,q2]
    exact Av I n d1 A.in1 _ _ _ _ ((hs.2 ds rfl).2 d1 (List.mem_of_getElem? g1)) b1 b2 rw1 rw2 (by first | (simp only [Around.in1]; omega) | omega)
def QL:R2:=fun x y H Q=>∃ (ds:List D) (n:Nat),Den H x (.tup ds)∧Den H y (.tup ds)∧eO n (.tup ds)∧n≤60∧Q (.bl false) H
theorem G5 {X:Cx} (hu:X.A.units+64 < cLine):OpR X (compareOp .NotEq) QL:=by
 intro pins s σ H x y v u Q I rx ry h
 obtain ⟨ds,n,hx,hy,hs,hn,q⟩:=h
 obtain ⟨a,vs,rfl,ha,hda⟩:=aN hx
 obtain ⟨b,us,rfl,hb,hdb⟩:=aN hy
 cases rx
 cases ry
 cases n with
 | zero=>exact absurd rfl (hs.2 ds)
 | succ n =>
 obtain ⟨its,r1,p1,_⟩:=I.tuple (SqT.of (K:=X.K) ha)
 obtain ⟨its2,r2,p2,_⟩:=I.tuple (SqT.of (K:=X.K) hb)
 have l1:=hda.len
 have l2:=hdb.len
 have m1:=r1.length
 have m2:=r2.length
 have key:=SeqAt.RcNeAt.tuples (A:=X.A) (s:=s) (e:=fun _=>true) p1 p2 (by omega) fun j h1 h2=>?_
 ·have e:(!((List.range (min its.toArray.size its2.toArray.size)).all (fun _=>true) && its.toArray.size == its2.toArray.size))=false:=by
   simp
   omega
  rw [e] at key
  exact key X.prog X.w _ _ ⟨.bl false,H,I,rfl,q⟩
 ·have hj1:j < vs.length:=by simpa [m1] using h1
  have hj2:j < us.length:=by simpa [m2] using h2
  obtain ⟨d1,g1,b1⟩:=hda.at_ (List.getElem?_eq_getElem hj1)
  obtain ⟨d2,g2,b2⟩:=hdb.at_ (List.getElem?_eq_getElem hj2)
  rw [g1] at g2
  cases g2
  obtain ⟨w1,hw1,rw1⟩:=r1.get (List.getElem?_eq_getElem hj1)
  obtain ⟨w2,hw2,rw2⟩:=r2.get (List.getElem?_eq_getElem hj2)
  have q1:its.toArray[j]=w1:=by
   have:=(List.getElem?_eq_some_iff.mp hw1).2
   simpa using this
  have q2:its2.toArray[j]=w2:=by
   have:=(List.getElem?_eq_some_iff.mp hw2).2
   simpa using this
  rw [q1,q2]
  exact Av I n d1 X.A.in1 _ _ _ _ ((hs.2 ds rfl).2 d1 (List.mem_of_getElem? g1)) b1 b2 rw1 rw2 (by first | (simp only [Around.in1]; omega) | omega)
end L2
namespace ZZ
open PySem
open Sem (wp)
section
variable {prog:Program} {w:World} {A:Around} {E:Value→Shared→Prop} {s:Shared}
end
end ZZ
namespace L2
open PySem PySem.Spec PyProof.Rows
end L2
namespace L2
open PySem PySem.Spec PyProof.Rows
end L2
namespace L2
open PySem PySem.Spec PyProof.Rows
theorem DK {X:Cx} {ix:Nat} {xn:Str} {pos' spos:Pos} {elt tg iter:Expr} {ifs:List Expr} {scope:Scope} {pos:Pos} {wi:TI} {g:TG} {tc:TT} {te:TE} (hN:X.N.Nodup) (hix:X.N[ix]?=some xn) (hxl:X.env.scope.names.lookup xn=some .local) (N:List Str) (lift:St→St) (hc:X.calm=true) (hi:PI X tg iter wi)
  (hkind:scope.kind=.function) (hcell:∀ y∈scope.names,y.2≠.cell) (hfree:∀ y∈scope.names,y.2=.free→X.env.kindOf y.1=some .cell∨X.env.kindOf y.1=some .free)
  (hnames:∀ y∈scope.names,y.2=.local→scope.names.lookup y.1=some .local)
  (hlen:∀ σ:St,σ.length=X.N.length→(lift σ).length=N.length)
  (hσ:∀ (σ:St) (i:Nat) (x:Str) (v:V),σ.length=X.N.length→N[i]?=some x→(lift σ)[i]?=some (some v)→scope.names.lookup x=some .free∧∃ j:Nat,X.N[j]?=some x∧σ[j]?=some (some v))
  (hg:∀ cl C s H ex pn E,PG (cu X scope N cl C s H ex pn E) tg g) (ht:∀ cl C s H ex pn E,JN (cu X scope N cl C s H ex pn E) ifs tc) (he:∀ cl C s H ex pn E,PE (cu X scope N cl C s H ex pn E) elt te)
  (hs:∀ x,foldedSetIterable iter X.env x=pure x) (hsw:swapsWith (.ListComp elt [⟨tg,iter,ifs,0⟩] scope pos) (some (.Name xn pos')) spos.line X.env=pure true) :
  PS X (.Assign [.Name xn pos'] (.ListComp elt [⟨tg,iter,ifs,0⟩] scope pos) spos) (Ng (FZ wi g tc te lift) (xr ix)):=by
 intro pins s σ H D I h
 rw [exec_Assign_Name_used _ _ _ _ hsw]
 refine wpAny_bind (wpAny_standAt (wpAny_bind ?_))
 suffices key:wpAny (model X.prog X.w) X.A (comprehension (.ListComp elt [⟨tg,iter,ifs,0⟩] scope pos) scope X.env (firstIterPos [⟨tg,iter,ifs,0⟩] pos) (newList []) (firstAsync [⟨tg,iter,ifs,0⟩]) (firstIter [⟨tg,iter,ifs,0⟩] X.env) (some (assign (.Name xn pos') X.env))) (fun _ s''=>∃ σ' H',Inv X pins σ' H' s''∧D.nx σ' H') X.xe s by
  show wpAny _ _ (comprehension _ _ _ _ _ _ _ _ >>= fun _=>pure ()) _ _ _
  exact wpAny_bind (thn key fun _ s' q=>wpAny_pure (wpAny_pure q))
 obtain ⟨cl,hclos,hcl1,hcl2⟩:=m7 (scope:=scope) (env:=X.env) fun y hy hf=>I.ok.has y.1 (hfree y hy hf)
 refine wpAny_comprehension_free (use:=some (assign (.Name xn pos') X.env)) rfl hs hclos hkind hnames (thn (hi pins s σ H _ I h) fun v s1 h1=>thn h1 fun itv s2 h2=>?_)
 obtain ⟨it,fp,tn,J,H2,e,I2,T,st2,f2,q⟩:=h2
 subst e
 refine wpAny_newObj_type (wpAny_newFunctionEnv hcell (by intro y hy; simp at hy) (fun h₁ hns₁ hsb₁=>?_) hkind)
 have I3:Inv X pins σ (upd H2 s2.heap.objs.size (.lst [])) { s2 with heap:=s2.heap.push { cls:=.type "list",data:=.seq ([]:List Value).toArray } }:=I2.lnew (its:=[]) (t':=s2.toks) .nil (Nat.zero_le _)
 have fr:H2 s2.heap.objs.size=none:=I2.fresh
 have hold:∀ b o,(s2.heap.push { cls:=.type "list",data:=.seq ([]:List Value).toArray }).get? b=some o→h₁.get? b=some o:=fun b o e=>hsb₁.extBut b o (Nat.ne_of_lt (Heap.lt_size e)) (Heap.get?_push_of_some _ e)
 have f3:∀ b∈fp,BX X pins (upd H2 s2.heap.objs.size (.lst [])) b:=fun b hb=>by
  obtain ⟨o,eo,_⟩:=T.obj 0 _ st2 b hb
  exact ⟨by rw [aF (Nat.ne_of_lt (Heap.lt_size eo))]; exact (f2 b hb).1,(f2 b hb).2⟩
 have fo:∀ b∈fp,∃ o,(s2.heap.push { cls:=.type "list",data:=.seq ([]:List Value).toArray }).get? b=some o:=fun b hb=>by
  obtain ⟨o,eo,_⟩:=T.obj 0 _ st2 b hb
  exact ⟨o,Heap.get?_push_of_some _ eo⟩
 generalize hP:s2.heap.push { cls:=.type "list",data:=.seq ([]:List Value).toArray }=P at *
 obtain ⟨W,⟨m0,w0⟩,turn⟩:=q s2.heap.objs.size fr
 generalize hL:s2.heap.objs.size=L at *
 let R:Result→Shared→Prop:=compPost (model X.prog X.w) X.A X.xe (some (assign (.Name xn pos') X.env)) (fun _ s''=>∃ σ' H',Inv X pins σ' H' s''∧D.nx σ' H') (.ref L) P.objs.size
 let Y:Cx:=cu X scope N cl P.objs.size { s2 with heap:=P } (upd H2 L (.lst [])) fp (X.pn++pins) (notedBy (model X.prog X.w) X.A (compEnvC scope cl P.objs.size X.env) fun e s'=>R (.error e) s')
 have IY:Inv Y [] (lift σ) (upd H2 L (.lst [])) { s2 with heap:=h₁,toks:=s2.toks+([]:List (Str × Value)).length } :=
  vX (s:={ s2 with heap:=P }) I3 hkind hcell hfree hcl1 hcl2 f3 fo (hlen σ I.len) (fun i x v=>hσ σ i x v I.len) hns₁ hold
 have stY:tn 0 h₁:=T.keep _ _ _ st2 fun b hb o e=>hold b o (by rw [← hP]; exact Heap.get?_push_of_some _ e)
 have fC:∀ b∈fp,b≠P.objs.size∧(b∈fp):=fun b hb=>by
  obtain ⟨o,eo⟩:=fo b hb
  exact ⟨Nat.ne_of_lt (Heap.lt_size eo),hb⟩
 have fpY:∀ {H':Hp},(∀ b∈fp,H' b=none)→∀ b∈fp,BX Y [] H' b:=fun {H'} hn b hb=>by
  refine ⟨hn b hb,(fC b hb).1,fun z=>?_,.inl hb,fun x c ex=>(f3 b hb).2.2.2.2.1 x c (hcl2 _ _ ex),fun p hp=>?_⟩
  ·rcases List.mem_cons.mp (I3.stkSub b z) with y | y
   ·exact (f3 b hb).2.1 y
   ·exact (f3 b hb).2.2.1 y
  ·have hp':p∈(X.pn++pins)++[]:=hp
   rw [List.append_nil] at hp'
   exact (f3 b hb).2.2.2.2.2 p hp'
 have loop:∀ s4:Shared,s4={ s2 with heap:=h₁,toks:=s2.toks+([]:List (Str × Value)).length } →
   codeAny (model X.prog X.w) X.A (.compLoop (.ListComp elt [⟨tg,iter,ifs,0⟩] scope pos) 0 (.ref it) (.ref L) (compEnvC scope cl P.objs.size X.env)) R s4:=by
  rintro s4 rfl
  refine dz (fun n s'=>∃ i σ' H',Inv Y [] σ' H' s'∧tn i s'.heap∧(∀ b∈fp,H' b=none)∧W i n σ' H') ?_ m0 ⟨0,_,_,IY,stY,fun b hb=>(f3 b hb).1,w0⟩
  rintro n s5 ⟨i,σ5,H5,I5,st5,fr5,w5⟩
  rcases turn i n σ5 H5 w5 with ⟨stop,qn⟩ | ⟨go,Nx,hNx,step⟩
  ·refine thn (T.done Y rfl rfl rfl hc i [] s5 σ5 H5 Y.xe I5 (fpY fr5) st5 stop) fun r s6 ⟨hr,I6⟩=>?_
   subst hr
   show R (.ok .next) s6
   obtain ⟨m6,hn6,_⟩:=id I6.loc
   have IX:Inv X pins σ H5 s6:=I3.call' (s':=s6) (ch:=fp) I6.os I6.base I6.hok I6.bare fun b hb=>⟨(f3 b hb).2.2.2.1,(f3 b hb).2.1,(f3 b hb).2.2.2.2.1,(f3 b hb).2.2.2.2.2⟩
   have nC:∀ x c,X.env.cells.lookup x=some c→c≠P.objs.size:=fun x c ec z=>by
    obtain ⟨v0,qv⟩:=I3.cell x c ec
    exact absurd qv.lt (by rw [z]; exact Nat.lt_irrefl _)
   have nP:∀ p∈X.pn++pins,p.1≠P.objs.size:=fun p hp z=>by
    have z0:=Heap.lt_size (I3.pin p hp).1
    exact absurd z0 (by rw [z]; exact Nat.lt_irrefl _)
   show wpAny _ _ (assign (.Name xn pos') X.env (.ref L)) _ _ _
   refine wpAny_assign_Name (qO IX hN hix (.inl hxl) (v:=.ref L) rfl (fun s7 I7 hsb=>?_) (.inr hxl))
   obtain ⟨a7,sb7,ha7⟩:=hsb
   have na7:P.objs.size≠a7:=by
    rcases ha7 with z | z
    ·rw [z]
     exact Nat.ne_of_gt I3.lt
    ·exact (nC _ _ z).symm
   refine ⟨m6,hn6.at' fun o e=>(sb7.2 _ na7).trans e,fun h' sb=>⟨_,H5,I7.turned (t':=s7.toks) (it:=P.objs.size) (fun b o hb e=>(sb.2 b hb).trans e) I6.free (Nat.ne_of_gt I3.lt) (.inr I3.sz) nC nP,qn⟩⟩
  ·refine thn (T.item Y rfl rfl rfl hc i [] s5 σ5 H5 Y.xe I5 (fpY fr5) st5 go) fun r s6 ⟨u,hr,h6⟩=>?_
   subst hr
   refine thn h6 fun _ s7 ⟨x,H7,I7,r7,y7,st7,fr7⟩=>?_
   have I7':=I7.pinned (fpY fr7) (T.obj _ _ st7)
   refine thn (hg _ _ _ _ _ _ _ _ s7 σ5 H7 x u _ I7' r7 (step x H7 y7)) fun _ s8 ⟨σ8,H8,I8,q8⟩=>?_
   refine thn (ht _ _ _ _ _ _ _ _ s8 σ8 H8 _ I8 q8) fun ok s9 ⟨H9,I9,q9⟩=>?_
   have again:∀ {sx:Shared} {Hx:Hp},Inv Y ([]++mR fp s7.heap) σ8 Hx sx→Nx σ8 Hx→∃ m,m < n∧∃ i σ' H',Inv Y [] σ' H' sx∧tn i sx.heap∧(∀ b∈fp,H' b=none)∧W i m σ' H':=fun {sx Hx} Ix nx=>by
    obtain ⟨m',hm,wx⟩:=hNx σ8 Hx nx
    refine ⟨m',hm,i+1,σ8,Hx,Ix.unpinned,T.keep _ _ _ st7 fun b hb o e=>(Ix.pin (b,o) (List.mem_append_right _ (List.mem_append_right _ (dI hb e)))).1,fun b hb=>?_,wx⟩
    obtain ⟨o,e,d⟩:=T.obj _ _ st7 b hb
    exact (Ix.pin (b,o) (List.mem_append_right _ (List.mem_append_right _ (dI hb e)))).2.1
   cases ok with
   | false =>
    rw [if_neg Bool.false_ne_true] at q9 ⊢
    exact again I9 q9
   | true =>
    rw [if_pos rfl] at q9 ⊢
    refine thn (he _ _ _ _ _ _ _ _ s9 σ8 H9 _ I9 q9) fun y s10 ⟨v10,H10,I10,r10,ys,hys,hz,q10⟩=>?_
    refine thn (bN (X:=Y) _ s10 σ8 H10 (.ref L) [v10] (.ref L) [y] (fun _ H'=>Nx σ8 H') I10 rfl (.cons r10 .nil) ⟨L,ys,v10,rfl,rfl,hys,hz,q10⟩) fun _ s11 ⟨_,H11,I11,_,q11⟩=>?_
    exact again I11 q11
 exact codeAny_compStart_list (loop _ rfl) (T.self X.A 0 _ _ _ stY (loop _ rfl))
theorem ug {X:Cx} {ix:Nat} {xn:Str} {pos' spos:Pos} {elt tg iter:Expr} {ifs:List Expr} {scope:Scope} {pos:Pos} {wi:TI} {g:TG} {tc:TT} {te:TE} (hN:X.N.Nodup) (hix:X.N[ix]?=some xn) (hxl:X.env.scope.names.lookup xn=some .local) (XN:List Str) (sc:Scope) (N:List Str) (js:List (Option Nat)) (hXN:X.N=XN) (hsc:X.env.scope=sc) (hc:X.calm=true) (hi:PI X tg iter wi)
  (hkind:scope.kind=.function) (hchk:jq N js XN scope.names=true) (hcell:∀ y∈scope.names,y.2≠.cell) (hfree:∀ y∈scope.names,y.2=.free→sc.names.lookup y.1=some .cell∨sc.names.lookup y.1=some .free)
  (hnames:∀ y∈scope.names,y.2=.local→scope.names.lookup y.1=some .local)
  (hg:∀ cl C s H ex pn E,PG (cu X scope N cl C s H ex pn E) tg g) (ht:∀ cl C s H ex pn E,JN (cu X scope N cl C s H ex pn E) ifs tc) (he:∀ cl C s H ex pn E,PE (cu X scope N cl C s H ex pn E) elt te)
  (hs:∀ x,foldedSetIterable iter X.env x=pure x:=by intro _; rfl) (hsw:swapsWith (.ListComp elt [⟨tg,iter,ifs,0⟩] scope pos) (some (.Name xn pos')) spos.line X.env=pure true:=by rfl) :
  PS X (.Assign [.Name xn pos'] (.ListComp elt [⟨tg,iter,ifs,0⟩] scope pos) spos) (Ng (FZ wi g tc te (jF js)) (xr ix)):=by
 subst hXN
 subst hsc
 exact DK hN hix hxl N (jF js) hc hi hkind hcell hfree hnames (fun σ _=>zE hchk σ) (fun σ i x v _ h1 h2=>GJ hchk σ i x v h1 h2) hg ht he hs hsw
end L2
set_option maxHeartbeats 1000000
namespace SO
open PySem PySem.W PyProof.Rows
variable {O:KeyOrd} {key:Nat→O.α} {N:Nat}
def KN (key:Nat→O.α) (p:Array Nat) (i:Nat):O.α:=key (p.getD i 0)
def cL (key:Nat→O.α) (p:Array Nat) (k:Nat):Prop:=∀ i j,i≤j→j < k→O.kle (KN key p i) (KN key p j)
def Cv (key:Nat→O.α) (p:Array Nat) (k:Nat):Prop:=∀ i j,i≤j→j < k→O.kle (KN key p j) (KN key p i)
def InN (N:Nat) (p:Array Nat):Prop:=p.toList.Perm (List.range N)
theorem InN.size {p:Array Nat} (h:InN N p):p.size=N:=by simpa using h.length_eq
theorem InN.lt {p:Array Nat} (h:InN N p) {i:Nat} (hi:i < N):p.getD i 0 < N:=by
 have hs:i < p.size:=by rw [h.size]; exact hi
 have e:p.getD i 0=p[i]:=by simp [Array.getD,hs]
 rw [e]
 exact List.mem_range.mp (h.mem_iff.mp (by simp))
theorem InN.of {p q:Array Nat} (h:InN N p) (g:q.Perm p):InN N q:=(Array.perm_iff_toList_perm.mp g).trans h
theorem iH {p q:Array Nat} {i j:Nat} (h:p[i]?=q[j]?):KN key p i=KN key q j:=by
 unfold KN
 rw [Array.getD_eq_getD_getElem?,Array.getD_eq_getD_getElem?,h]
theorem qC {p:Array Nat} {src d:Nat} (hs:src < p.size) (hd:d≤src) (k:Nat) :
  KN key (bubble p src d) k=if k=src - d then KN key p src else if src - d < k∧k≤src then KN key p (k - 1) else KN key p k:=by
 have e:=getElem?_bubble hs d hd k
 by_cases h1:k=src - d
 ·rw [if_pos h1] at e ⊢; exact iH e
 ·rw [if_neg h1] at e ⊢
  by_cases h2:src - d < k∧k≤src
  ·rw [if_pos h2] at e ⊢; exact iH e
  ·rw [if_neg h2] at e ⊢; exact iH e
theorem zV {p:Array Nat} {i j:Nat} (hj:j≤p.size) (k:Nat):KN key (kas_rev p i j) k=if i≤k∧k < j then KN key p (i+j - 1 - k) else KN key p k:=by
 have e:=getElem?_mirror_all (i:=i) hj k
 unfold kas_rev
 by_cases h1:i≤k∧k < j
 ·rw [if_pos h1] at e ⊢; exact iH e
 ·rw [if_neg h1] at e ⊢; exact iH e
theorem cZ {p:Array Nat} {i j:Nat} (hj:j≤p.size) (heq:∀ k,i≤k→k < j→KN key p k=KN key p (j - 1)) (k:Nat):KN key (kas_rev p i j) k=KN key p k:=by
 rw [zV hj]
 split
 ·rw [heq _ (by omega) (by omega),heq k (by omega) (by omega)]
 ·rfl
theorem InN.rev {p:Array Nat} (h:InN N p) (i j:Nat):InN N (kas_rev p i j):=h.of (mirror_perm _ _ _ _)
section
variable {cmp:Nat→Nat→(Bool→Shared→Prop)→Shared→Prop} {s:Shared}
def Cmp (key:Nat→O.α) (N:Nat) (cmp:Nat→Nat→(Bool→Shared→Prop)→Shared→Prop) (s:Shared):Prop :=
 ∀ (i j:Nat) (C:Bool→Shared→Prop),i < N→j < N→C (O.blt (key i) (key j)) s→cmp i j C s
theorem ask {α:Type} {p:Array Nat} {i j:Nat} {k:Bool→KasT α} {G:α→Shared→Prop} (hc:Cmp key N cmp s) (hp:InN N p) (hi:i < N) (hj:j < N)
  (h:(k (O.blt (KN key p i) (KN key p j))).kasWp cmp G s):(KasT.ask (p.getD i 0) (p.getD j 0) k).kasWp cmp G s :=
 hc _ _ _ (hp.lt hi) (hp.lt hj) h
theorem asc {p:Array Nat} {G:Nat→Shared→Prop} {nrem:Nat} (hc:Cmp key N cmp s) (hp:InN N p) (hN:nrem≤N):∀ (f n:Nat),1≤n→n+f=nrem→cL key p n →
  (∀ m,n≤m→m≤nrem→cL key p m→(m=nrem∨O.klt (KN key p m) (KN key p (m - 1)))→G m s)→(kas_asc p f n).kasWp cmp G s
 | 0,n,h1,hf,hs,h=>h n (Nat.le_refl _) (by omega) hs (.inl (by omega))
 | f+1,n,h1,hf,hs,h=>by
  unfold kas_asc
  refine ask hc hp (by omega) (by omega) ?_
  cases hl:O.blt (KN key p n) (KN key p (n - 1)) with
  | true =>
   rw [if_pos rfl]
   exact h n (Nat.le_refl _) (by omega) hs (.inr hl)
  | false =>
   rw [if_neg (by simp)]
   refine asc hc hp hN f (n+1) (by omega) (by omega) (fun i j hij hj=>?_) fun m a b c d=>h m (by omega) b c d
   by_cases hjx:j < n
   ·exact hs i j hij hjx
   ·have hj':j=n:=by omega
    subst hj'
    by_cases hi':i=j
    ·subst hi'; exact KeyOrd.kle_refl _
    ·exact KeyOrd.kle_trans (hs i (j - 1) (by omega) (by omega)) hl
theorem desc {G:Array Nat × Nat × Nat→Shared→Prop} {nrem:Nat} (hc:Cmp key N cmp s) (hN:nrem≤N):∀ (f:Nat) (p:Array Nat) (n q:Nat),InN N p→1≤n→n+f=nrem→Cv key p n→q+1≤n →
  (∀ i,n - (q+1)≤i→i < n→KN key p i=KN key p (n - 1)) →
  (∀ p m q,InN N p→n≤m→m≤nrem→Cv key p m→q+1≤m→(∀ i,m - (q+1)≤i→i < m→KN key p i=KN key p (m - 1))→G (p,m,q) s)→(kas_desc f p n q).kasWp cmp G s
 | 0,p,n,q,hp,h1,hf,hs,hq,he,h=>h p n q hp (Nat.le_refl _) (by omega) hs hq he
 | f+1,p,n,q,hp,h1,hf,hs,hq,he,h=>by
  unfold kas_desc
  have hsz:n≤p.size:=by rw [hp.size]; omega
  refine ask hc hp (by omega) (by omega) ?_
  cases hl:O.blt (KN key p n) (KN key p (n - 1)) with
  | true =>
   rw [if_pos rfl]
   have step1:∀ xs:Array Nat,(∀ k,KN key xs k=KN key p k)→Cv key xs (n+1):=by
    intro xs hk i j hij hj
    rw [hk,hk]
    by_cases hjx:j < n
    ·exact hs i j hij hjx
    ·have hj':j=n:=by omega
     subst hj'
     by_cases hi':i=j
     ·subst hi'; exact KeyOrd.kle_refl _
     ·exact KeyOrd.kle_trans (KeyOrd.kle_of_klt hl) (hs i (j - 1) (by omega) (by omega))
   by_cases hneq:q > 0
   ·rw [if_pos hneq]
    exact desc hc hN f _ (n+1) 0 (hp.rev _ _) (by omega) (by omega) (step1 _ (cZ hsz he)) (by omega) (fun i a b=>by congr 1; omega) fun p m q x a b c d e=>h p m q x (by omega) b c d e
   ·rw [if_neg hneq]
    exact desc hc hN f _ (n+1) 0 hp (by omega) (by omega) (step1 _ fun _=>rfl) (by omega) (fun i a b=>by congr 1; omega) fun p m q x a b c d e=>h p m q x (by omega) b c d e
  | false =>
   rw [if_neg (by simp)]
   refine ask hc hp (by omega) (by omega) ?_
   cases hg:O.blt (KN key p (n - 1)) (KN key p n) with
   | true =>
    rw [if_pos rfl]
    exact h p n q hp (Nat.le_refl _) (by omega) hs hq he
   | false =>
    rw [if_neg (by simp)]
    have heqx:KN key p n=KN key p (n - 1):=KeyOrd.kle_antisymm hg hl
    refine desc hc hN f p (n+1) (q+1) hp (by omega) (by omega) (fun i j hij hj=>?_) (by omega) (fun i a b=>?_) fun p m q x a b c d e=>h p m q x (by omega) b c d e
    ·by_cases hjx:j < n
     ·exact hs i j hij hjx
     ·have hj':j=n:=by omega
      subst hj'
      by_cases hi':i=j
      ·subst hi'; exact KeyOrd.kle_refl _
      ·rw [heqx]; exact hs i (j - 1) (by omega) (by omega)
    ·rw [show n+1 - 1=n by omega]
     by_cases hix:i=n
     ·subst hix; rfl
     ·rw [heqx]; exact he i (by omega) (by omega)
theorem tail3 {p:Array Nat} {n nrem:Nat} {G:Nat × Array Nat→Shared→Prop} (hc:Cmp key N cmp s) (hp:InN N p) (hN:nrem≤N) (h1:1≤n) (hn:n≤nrem) (hs:Cv key p n)
  (h:∀ m q,InN N q→1≤m→m≤nrem→cL key q m→G (m,q) s):(kas_tail3 n nrem p).kasWp cmp G s:=by
 unfold kas_tail3
 rw [KasT.kasWp_bind]
 have hsz:n≤p.size:=by rw [hp.size]; omega
 refine asc (nrem:=nrem) hc (hp.rev _ _) hN _ n h1 (by omega) (fun i j hij hj=>?_) fun m a b c _=>h m _ (hp.rev _ _) (by omega) b c
 rw [zV hsz,zV hsz,if_pos (by omega),if_pos (by omega)]
 exact hs _ _ (by omega) (by omega)
theorem descPart {p:Array Nat} {n nrem:Nat} {G:Nat × Array Nat→Shared→Prop} (hc:Cmp key N cmp s) (hp:InN N p) (hN:nrem≤N) (hn:n+1≤nrem) (hs:Cv key p (n+1))
  (h:∀ m q,InN N q→1≤m→m≤nrem→cL key q m→G (m,q) s):(kas_descPart n nrem p).kasWp cmp G s:=by
 unfold kas_descPart
 rw [KasT.kasWp_bind]
 refine desc (nrem:=nrem) hc hN _ p (n+1) 0 hp (by omega) (by omega) hs (by omega) (fun i a b=>by congr 1; omega) fun p' m q hp' hm1 hm2 hf hq he=>?_
 dsimp only
 have hsz:m≤p'.size:=by rw [hp'.size]; omega
 by_cases hneq:q > 0
 ·rw [if_pos hneq]
  refine tail3 hc (hp'.rev _ _) hN (by omega) hm2 (fun i j hij hj=>?_) h
  rw [cZ hsz he,cZ hsz he]
  exact hf i j hij hj
 ·rw [if_neg hneq]
  exact tail3 hc hp' hN (by omega) hm2 hf h
theorem count {p:Array Nat} {nrem:Nat} {G:Nat × Array Nat→Shared→Prop} (hc:Cmp key N cmp s) (hp:InN N p) (hN:nrem≤N) (h1:1≤nrem)
  (h:∀ m q,InN N q→1≤m→m≤nrem→cL key q m→G (m,q) s):(kas_count nrem p).kasWp cmp G s:=by
 unfold kas_count
 rw [KasT.kasWp_bind]
 refine asc (nrem:=nrem) hc hp hN _ 1 (Nat.le_refl _) (by omega) (fun i j hij hj=>by have:i=j:=(by omega); subst this; exact KeyOrd.kle_refl _) fun n hn1 hn2 hsn hor=>?_
 by_cases hnn:n=nrem
 ·rw [if_pos (by simpa using hnn)]
  exact h n p hp hn1 hn2 hsn
 ·rw [if_neg (by simpa using hnn)]
  have hlt:O.klt (KN key p n) (KN key p (n - 1)):=hor.resolve_left hnn
  by_cases hgt:n > 1
  ·rw [if_pos hgt]
   refine ask hc hp (by omega) (by omega) ?_
   cases hrose:O.blt (KN key p 0) (KN key p (n - 1)) with
   | true =>
    rw [if_pos rfl]
    exact h n p hp hn1 hn2 hsn
   | false =>
    rw [if_neg (by simp)]
    have hsz:n≤p.size:=by rw [hp.size]; omega
    have hall:∀ k,0≤k→k < n→KN key p k=KN key p (n - 1):=by
     intro k _ hk
     have a1:=hsn 0 k (by omega) hk
     have a2:=hsn k (n - 1) (by omega) (by omega)
     exact KeyOrd.kle_antisymm a2 (KeyOrd.kle_trans hrose a1)
    refine descPart hc (hp.rev _ _) hN (by omega) (fun i j hij hj=>?_) h
    rw [cZ hsz hall,cZ hsz hall]
    by_cases hjn:j < n
    ·rw [hall i (by omega) (by omega),hall j (by omega) hjn]; exact KeyOrd.kle_refl _
    ·have hj':j=n:=by omega
     subst hj'
     by_cases hi':i=j
     ·subst hi'; exact KeyOrd.kle_refl _
     ·rw [hall i (by omega) (by omega)]; exact KeyOrd.kle_of_klt hlt
  ·rw [if_neg hgt]
   have hn1':n=1:=by omega
   subst hn1'
   refine descPart hc hp hN (by omega) (fun i j hij hj=>?_) h
   by_cases hi':i=j
   ·subst hi'; exact KeyOrd.kle_refl _
   ·have hi0:i=0:=by omega
    have hj1:j=1:=by omega
    subst hi0; subst hj1
    exact KeyOrd.kle_of_klt hlt
theorem place {p:Array Nat} {k:Nat} {G:Nat→Shared→Prop} (hc:Cmp key N cmp s) (hp:InN N p) (hk:k < N) (hs:cL key p k):∀ (f l r:Nat),l≤r→r≤k→r - l≤f →
  (∀ i,i < l→O.kle (KN key p i) (KN key p k))→(∀ i,r≤i→i < k→O.klt (KN key p k) (KN key p i)) →
  (∀ l,l≤k→(∀ i,i < l→O.kle (KN key p i) (KN key p k))→(∀ i,l≤i→i < k→O.klt (KN key p k) (KN key p i))→G l s)→(kas_place p k f l r).kasWp cmp G s
 | 0,l,r,hlr,hrk,hf,hlo,hhi,h=>by
  have e:l=r:=by omega
  subst e
  exact h l hrk hlo hhi
 | f+1,l,r,hlr,hrk,hf,hlo,hhi,h=>by
  unfold kas_place
  by_cases hge:l ≥ r
  ·rw [if_pos hge]
   have e:l=r:=by omega
   subst e
   exact h l hrk hlo hhi
  ·rw [if_neg hge]
   refine ask hc hp hk (by omega) ?_
   cases hl:O.blt (KN key p k) (KN key p ((l+r) / 2)) with
   | true =>
    rw [if_pos rfl]
    exact place hc hp hk hs f l ((l+r) / 2) (by omega) (by omega) (by omega) hlo (fun i a b=>KeyOrd.klt_of_klt_of_kle hl (hs _ _ a b)) h
   | false =>
    rw [if_neg (by simp)]
    exact place hc hp hk hs f ((l+r) / 2+1) r (by omega) (by omega) (by omega) (fun i a=>KeyOrd.kle_trans (hs i ((l+r) / 2) (by omega) (by omega)) hl) hhi h
theorem bin {n:Nat} {G:Array Nat→Shared→Prop} (hc:Cmp key N cmp s) (hN:n≤N):∀ (f:Nat) (p:Array Nat) (k:Nat),InN N p→k+f=n→cL key p k →
  (∀ p,InN N p→cL key p n→G p s)→(kas_bin f p k).kasWp cmp G s
 | 0,p,k,hp,hf,hs,h=>h p hp (by rw [show n=k by omega]; exact hs)
 | f+1,p,k,hp,hf,hs,h=>by
  unfold kas_bin
  rw [KasT.kasWp_bind]
  refine place hc hp (by omega) hs k 0 k (by omega) (Nat.le_refl _) (by omega) (fun i a=>by omega) (fun i a b=>by omega) fun l hlk hlo hhi=>?_
  refine bin hc hN f _ (k+1) (hp.of (bubble_perm _ _ _)) (by omega) (fun i j hij hj=>?_) h
  have hks:k < p.size:=by rw [hp.size]; omega
  rw [qC hks (by omega),qC hks (by omega),show k - (k - l)=l by omega]
  repeat' split
  all_goals first
   | (exfalso; omega)
   | exact KeyOrd.kle_refl _
   | exact hlo _ (by omega)
   | exact KeyOrd.kle_of_klt (hhi _ (by omega) (by omega))
   | exact hs _ _ (by omega) (by omega)
theorem sort {G:Array Nat→Shared→Prop} (hc:Cmp key N cmp s) (h1:1≤N) (h:∀ p,InN N p→cL key p N→G p s):(kas_sort N).kasWp cmp G s:=by
 unfold kas_sort
 rw [KasT.kasWp_bind]
 refine count hc (show InN N _ by unfold InN; simp) (Nat.le_refl _) h1 fun m q hq hm1 hm2 hs=>?_
 dsimp only
 by_cases hlt:m < N
 ·rw [if_pos hlt,show max m 1=m by omega]
  exact bin hc (Nat.le_refl _) _ q m hq (by omega) hs h
 ·rw [if_neg hlt]
  obtain rfl:m=N:=by omega
  exact h q hq hs
end
section
variable {prog:Program} {w:World} {A:Around} {E:Value→Shared→Prop} {s:Shared}
def Keeps (h h':Heap):Prop:=∀ b o,h.get? b=some o→h'.get? b=some o
theorem qx {a:Addr} {vs:List Value} {n:Nat} {P:PySem.Fin→Shared→Prop} (key:Nat→O.α) (κ:SortKind) (ho:s.heap.get? a=some (seqObj "list" vs.toArray n)) (h64:vs.length < 64)
  (hk:2≤vs.length→∀ h',(∀ b o,b≠a→s.heap.get? b=some o→h'.get? b=some o)→∀ (Q:SortKind→Shared→Prop),Q κ { s with heap:=h' }→wpAny (model prog w) A (keyKind' vs.toArray) Q E { s with heap:=h' })
  (hc:∀ h',(∀ b o,b≠a→s.heap.get? b=some o→h'.get? b=some o)→Cmp key vs.length (kas_ask prog w A κ vs) { s with heap:=h' })
  (h:∀ p,InN vs.length p→cL key p vs.length→P (.done (.ret .none)) { s with heap:=sortedHeap s.heap a vs (List.toArray (p.toList.map fun i=>vs.getD i Value.none)) }) :
  wpAny (model prog w) A (Builtin.«list.sort» ⟨[.ref a],[]⟩) P E s:=by
 rw [list_sort_plain]
 have ha:a < s.heap.objs.size:=Heap.lt_size ho
 refine wpAny_bind (listItems_at ho rfl ?_)
 refine wpAny_bind (listUpdate_at ho rfl ?_ (by rw [sizeLine_eq]; simp; omega))
 obtain ⟨e1,ho1⟩:∃ e1,(s.heap.update a (Obj.mapSeq fun _=>#[])).get? a=some (seqObj "list" #[] e1):=⟨_,get?_update_seq ho (fun _=>#[])⟩
 refine wpAny_bind (seqEpoch_at ho1 rfl ?_)
 refine wpAny_bind (wpAny_newTuple ?_ (by rw [sizeLine_eq]; simp; omega))
 refine wpAny_bind (wpAny_newList ?_)
 refine wpAny_holding ?_
 have keep:∀ b o,b≠a→s.heap.get? b=some o→(((s.heap.update a (Obj.mapSeq fun _=>#[])).push (seqObj "tuple" vs.toArray 0)).push (seqObj "list" #[] 0)).get? b=some o:=fun b o hb q=>by
  have hlt:b < s.heap.objs.size:=Heap.lt_size q
  rw [Heap.get?_push_ne _ _ _ (by rw [size_push',Heap.size_update]; exact Nat.ne_of_lt (Nat.lt_succ_of_lt hlt)),Heap.get?_push_ne _ _ _ (by rw [Heap.size_update]; exact Nat.ne_of_lt hlt),Heap.get?_update_ne _ _ _ _ hb]
  exact q
 have ho6:(((s.heap.update a (Obj.mapSeq fun _=>#[])).push (seqObj "tuple" vs.toArray 0)).push (seqObj "list" #[] 0)).get? a=some (seqObj "list" #[] e1):=by
  rw [Heap.get?_push_ne _ _ _ (by rw [size_push',Heap.size_update]; exact Nat.ne_of_lt (Nat.lt_succ_of_lt ha)),Heap.get?_push_ne _ _ _ (by rw [Heap.size_update]; exact Nat.ne_of_lt ha)]
  exact ho1
 show wpAny (model prog w) A _ P E { s with heap:=((s.heap.update a (Obj.mapSeq fun _=>#[])).push (seqObj "tuple" vs.toArray 0)).push (seqObj "list" #[] 0) }
 dsimp only
 have hsz:vs.toArray.size=vs.length:=by simp
 by_cases h2:vs.toArray.size < 2
 ·rw [if_pos h2,if_pos h2]
  refine wpAny_bind (wpAny_pure ?_)
  rw [StateT.run_pure]
  refine wpAny_bind (wpAny_pure ?_)
  dsimp only
  refine wpAny_bind (seqEpoch_at ho6 rfl ?_)
  have e:((arrOf (SortSt.mk' general' (vs.toArray.zip vs.toArray) #[] 7 none)).map (·.2))=List.toArray ((List.range vs.length).toArray.toList.map fun i=>vs.getD i Value.none):=by
   show (vs.toArray.zip vs.toArray).map (·.2)=_
   apply Array.toList_inj.mp
   apply List.ext_getElem
   ·simp
   ·intro i h1 h2'
    simp at h1 h2' ⊢
    simp [h1]
  rw [e]
  refine wpAny_bind (listUpdate_at ho6 rfl ?_ (hsz2:=by rw [sizeLine_eq]; simp; omega))
  simp only [bne_self_eq_false,Bool.false_eq_true,if_false]
  refine wpAny_pure (h _ (show InN vs.length (List.range vs.length).toArray from List.Perm.refl _) ?_)
  intro i j hij hj
  have:i=j:=by omega
  subst this; exact KeyOrd.kle_refl _
 ·rw [if_neg h2,if_neg h2]
  refine wpAny_bind (hk (by omega) _ keep _ ?_)
  refine wpAny_bind (wpAny_mono (kat_run (ks:=vs) (vs:=vs) (Q:=fun st' s'=>∃ p:Array Nat,arrOf st'=p.map (kas_item (vs.toArray.zip vs.toArray))∧failedOf st'=none∧s'=_∧InN vs.length p∧cL key p vs.length)
   (G:=fun p s'=>s'=_∧InN vs.length p∧cL key p vs.length) rfl (by omega) h64 (fun p st' s' _ har hf hg=>⟨p,har,hf,hg⟩) (sort (hc _ keep) (by omega) fun p a b=>⟨rfl,a,b⟩)) ?_ fun _ _ x=>x)
  rintro ⟨⟨⟩,st'⟩ s' ⟨p,har,hf,rfl,hi,hso⟩
  dsimp only
  have hpl:p.size≤63:=by rw [hi.size]; omega
  refine wpAny_bind (seqEpoch_at ho6 rfl ?_)
  rw [kat_snds rfl har]
  refine wpAny_bind (listUpdate_at ho6 rfl ?_ (hsz2:=by rw [sizeLine_eq]; simp; omega))
  rw [hf]
  simp only [bne_self_eq_false,Bool.false_eq_true,if_false]
  exact wpAny_pure (h p hi hso)
theorem xU {v:Value} {vs:List Value} {g:Heap} {Q:Value→Shared→Prop} (key:Nat→O.α) (κ:SortKind) (h64:vs.length < 64) (kg:Keeps s.heap g)
  (hcol:∀ (Q:List Value→Shared→Prop),Q vs { s with heap:=g }→wpAny (model prog w) A.in1 (collect v) Q E { s with heap:=s.heap })
  (hk:2≤vs.length→∀ h',Keeps s.heap h'→∀ (E:Value→Shared→Prop) (Q:SortKind→Shared→Prop),Q κ { s with heap:=h' }→wpAny (model prog w) A.in1.in1 (keyKind' vs.toArray) Q E { s with heap:=h' })
  (hc:∀ h',Keeps s.heap h'→Cmp key vs.length (kas_ask prog w A.in1.in1 κ vs) { s with heap:=h' })
  (h:∀ (g':Heap) (p:Array Nat),Keeps s.heap g'→InN vs.length p→cL key p vs.length→(∃ n,g'.get? g.objs.size=some (seqObj "list" (List.toArray (p.toList.map fun i=>vs.getD i Value.none)) n))→Q (.ref g.objs.size) { s with heap:=g' }) :
  wpAny (model prog w) A (call (.builtin "sorted") [v]) Q E s:=by
 refine Calls.call_function_entry kind_sorted plain_sorted entry_sorted (args_sorted1 _) ?_
 unfold Builtin.«sorted»
 refine wpAny_bind (m:=checkCount "sorted" 1 1 _) (wpAny_pure ?_)
 refine wpAny_bind (hcol _ ?_)
 refine wpAny_bind (wpAny_newList ?_ (by rw [sizeLine_eq]; omega))
 have hoL:(g.push (seqObj "list" vs.toArray 0)).get? g.objs.size=some (seqObj "list" vs.toArray 0):=Heap.get?_push_size _ rfl
 have keep:∀ h',(∀ b o,b≠g.objs.size→(g.push (seqObj "list" vs.toArray 0)).get? b=some o→h'.get? b=some o)→Keeps s.heap h':=fun h' k b o q=>by
  have q':=kg b o q
  exact k b o (Nat.ne_of_lt (Heap.lt_size q')) (Heap.get?_push_of_some _ q')
 show wpAny _ _ _ _ _ { s with heap:=g.push (seqObj "list" vs.toArray 0) }
 refine wpAny_bind (wpAny_holding (wpAny_call_entry slot_list_sort ⟨_,hoL,rfl⟩ entry_list_sort (qx key κ hoL h64 (fun z h' k Q q=>hk z h' (keep h' k) _ Q q) (fun h' k=>hc h' (keep h' k)) fun p a1 a2=>⟨_,rfl,?_⟩) (args_list_sort _)))
 refine wpAny_pure ⟨_,rfl,h _ p (keep _ fun b o hb q=>?_) a1 a2 ?_⟩
 ·unfold sortedHeap
  have hlt:b < (g.push (seqObj "list" vs.toArray 0)).objs.size:=Heap.lt_size q
  rw [Heap.get?_update_ne _ _ _ _ hb,Heap.get?_push_ne _ _ _ (by rw [size_push',Heap.size_update]; exact Nat.ne_of_lt (Nat.lt_succ_of_lt hlt)),Heap.get?_push_ne _ _ _ (by rw [Heap.size_update]; exact Nat.ne_of_lt hlt),Heap.get?_update_ne _ _ _ _ hb]
  exact q
 ·unfold sortedHeap
  have ha:g.objs.size < (g.push (seqObj "list" vs.toArray 0)).objs.size:=Heap.lt_size hoL
  obtain ⟨e1,ho1⟩:∃ e1,((g.push (seqObj "list" vs.toArray 0)).update g.objs.size (Obj.mapSeq fun _=>#[])).get? g.objs.size=some (seqObj "list" #[] e1):=⟨_,get?_update_seq hoL (fun _=>#[])⟩
  have ho6:((((g.push (seqObj "list" vs.toArray 0)).update g.objs.size (Obj.mapSeq fun _=>#[])).push (seqObj "tuple" vs.toArray 0)).push (seqObj "list" #[] 0)).get? g.objs.size=some (seqObj "list" #[] e1):=by
   rw [Heap.get?_push_ne _ _ _ (by rw [size_push',Heap.size_update]; exact Nat.ne_of_lt (Nat.lt_succ_of_lt ha)),Heap.get?_push_ne _ _ _ (by rw [Heap.size_update]; exact Nat.ne_of_lt ha)]
   exact ho1
  exact ⟨_,get?_update_seq ho6 _⟩
end
end SO
set_option maxHeartbeats 4000000
namespace PySem.SeqAt
open AutoSeq1 (wpAny_loadPart')
open MeetsSeq MeetsSeq2 MeetsSeq3 SeqRoads2
def xq (A:Around) (s:Shared) (y x:Value) (b:Bool):Prop :=
 ∀ (prog:Program) (w:World) (E:Value→Shared→Prop) (Q:Value→Shared→Prop),Q (.bool b) s→wpAny (model prog w) A (richCompare .Lt y x) Q E s
def mD (e f:Nat→Bool) (fin:Bool):List Nat→Bool
 | []=>fin
 | i :: r=>if e i=true then mD e f fin r else f i
theorem wQ (l b:Addr) (items items2:Array Value) (n n2:Nat) (dd dd2:Option Addr) (sl sl2:Array (Option Value)) (e f:Nat→Bool) :
  Meets (Builtin.«tuple.__lt__» ⟨[.ref l,.ref b],[]⟩)
   (fun A R s=>s.heap.get? l=some { cls:=.type "tuple",dict:=dd,data:=.seq items n,slots:=sl }∧s.heap.get? b=some { cls:=.type "tuple",dict:=dd2,data:=.seq items2 n2,slots:=sl2 } ∧
    (∀ j (h1:j < items.size) (h2:j < items2.size),EqAt A.in1 s items[j] items2[j] (e j))∧(∀ j (h1:j < items.size) (h2:j < items2.size),e j=false→xq A.in1 s items[j] items2[j] (f j)) ∧
    R (.ok (.ret (.bool (mD e f (decide (items.size < items2.size)) (List.range (min items.size items2.size)))))) s) :=
 .of_wp fun prog w A R s h=>by
  obtain ⟨hp,g,d,tk,os⟩:=s; obtain ⟨hl,hb,he,hf,h⟩:=h
  have f2:=AutoSeq1.sub_tuple_tuple
  have hZ:(items.toList.zip items2.toList).length=min items.size items2.size:=by simp
  wp_walk using wpAny_loadPart' hl,wpAny_loadPart' hb,wpAny_forIn_list _ (fun rest b s'=>b.1=none∧s'=⟨hp,g,d,tk,os⟩∧∃ i,rest=(items.toList.zip items2.toList).drop i ∧
   R (.ok (.ret (.bool (mD e f (decide (items.size < items2.size)) ((List.range (min items.size items2.size)).drop i))))) ⟨hp,g,d,tk,os⟩) _
  case turn =>
   rintro ⟨y,x⟩ rest b s' ⟨hb',rfl,i,hz,hR⟩
   have hlt:i < (items.toList.zip items2.toList).length:=by
    rcases Nat.lt_or_ge i (items.toList.zip items2.toList).length with h' | h'
    ·exact h'
    ·rw [List.drop_of_length_le h'] at hz; cases hz
   have hm:i < min items.size items2.size:=hZ ▸ hlt
   have h1:i < items.size:=Nat.lt_of_lt_of_le hm (Nat.min_le_left _ _)
   have h2:i < items2.size:=Nat.lt_of_lt_of_le hm (Nat.min_le_right _ _)
   rw [List.drop_eq_getElem_cons hlt] at hz
   injection hz with hyx hrest
   have hy:y=items[i]:=by have:=congrArg Prod.fst hyx; simpa using this
   have hx:x=items2[i]:=by have:=congrArg Prod.snd hyx; simpa using this
   subst hy hx
   have hd:(List.range (min items.size items2.size)).drop i=i :: (List.range (min items.size items2.size)).drop (i+1):=by simp [List.drop_eq_getElem_cons,hm]
   rw [hd] at hR
   refine wpAny_bind (he i h1 h2 prog w _ _ ?_)
   cases hy:e i with
   | true =>
    have hR':R (.ok (.ret (.bool (mD e f (decide (items.size < items2.size)) ((List.range (min items.size items2.size)).drop (i+1)))))) ⟨hp,g,d,tk,os⟩:=by
     have:mD e f (decide (items.size < items2.size)) (i :: (List.range (min items.size items2.size)).drop (i+1))=mD e f (decide (items.size < items2.size)) ((List.range (min items.size items2.size)).drop (i+1)):=by
      show (if e i=true then _ else _)=_
      rw [if_pos hy]
     rw [this] at hR
     exact hR
    wp_walk
    exact ⟨rfl,rfl,i+1,hrest,hR'⟩
   | false =>
    have hR':R (.ok (.ret (.bool (f i)))) ⟨hp,g,d,tk,os⟩:=by
     have:mD e f (decide (items.size < items2.size)) (i :: (List.range (min items.size items2.size)).drop (i+1))=f i:=by
      show (if e i=true then _ else _)=_
      rw [if_neg (by simp [hy])]
     rw [this] at hR
     exact hR
    simp only [Bool.not_false,if_true]
    refine wpAny_bind (wpAny_rule (wpAny_bind (hf i h1 h2 hy prog w _ _ ?_)))
    wp_walk
    exact ⟨_,rfl,hR'⟩
  case fin =>
   rintro ⟨b1,b2⟩ s' ⟨hb',rfl,i,hz,hR⟩
   simp only at hb'
   subst hb'
   have hge:min items.size items2.size≤i:=by
    rcases Nat.lt_or_ge i (items.toList.zip items2.toList).length with h' | h'
    ·rw [List.drop_eq_getElem_cons h'] at hz; cases hz
    ·exact hZ ▸ h'
   rw [List.drop_of_length_le (by simpa using hge)] at hR
   wp_walk
   exact ⟨_,rfl,by simpa [Builtin.Tuple.tupleCompareSizes,mD] using hR⟩
  case h =>
   exact ⟨rfl,rfl,0,rfl,by simpa using h⟩
section
variable {A:Around} {s:Shared}
theorem xq.tuples {l b:Addr} {items items2:Array Value} {e f:Nat→Bool} (hl:s.heap.IsTuple l items) (hb:s.heap.IsTuple b items2) (hu:A.units < cLine)
  (he:∀ j (h1:j < items.size) (h2:j < items2.size),EqAt A.in1 s items[j] items2[j] (e j)) (hf:∀ j (h1:j < items.size) (h2:j < items2.size),e j=false→xq A.in1 s items[j] items2[j] (f j)) :
  xq A s (.ref l) (.ref b) (mD e f (decide (items.size < items2.size)) (List.range (min items.size items2.size))):=fun prog w E Q h=>by
 obtain ⟨⟨cls,dd,data,sl⟩,ho,hc,n,hd⟩:=id hl
 obtain ⟨⟨cls2,dd2,data2,sl2⟩,ho2,hc2,n2,hd2⟩:=id hb
 simp only at hc hd hc2 hd2
 subst hc hd hc2 hd2
 exact richCompare_meets_room (op:=.Lt) ⟨_,ho,rfl⟩ ⟨_,ho2,rfl⟩ F.slot_tuple_lt F.entry_tuple_lt (F.args_tuple_lt_2 _ _) (wQ l b items items2 n n2 dd dd2 sl sl2 e f)
  ⟨ho,ho2,he,hf,show Value.bool (mD e f (decide (items.size < items2.size)) (List.range (min items.size items2.size)))≠Value.notImplemented∧Q (.bool (mD e f (decide (items.size < items2.size)) (List.range (min items.size items2.size)))) s from ⟨(fun x=>nomatch x),h⟩⟩ hu
end
end PySem.SeqAt
set_option maxHeartbeats 400000
namespace L2
open PySem PySem.Spec PyProof.Rows
def cT:D→Nat
 | .non=>0 | .bl _=>1 | .int _=>2 | .str _=>3 | .tup _=>4
open Classical in
noncomputable def eqD (a b:D):Bool:=decide (a=b)
theorem HN {x y:Str} (e:x.cps.toList=y.cps.toList):x=y:=by
 cases x; cases y
 simp only at e
 congr
 exact Array.toList_inj.mp e
theorem fV {a b:D} (h:eqD a b=true):a=b:=@of_decide_eq_true _ (Classical.propDecidable _) h
theorem uq (d:D):eqD d d=true:=@decide_eq_true _ (Classical.propDecidable _) rfl
theorem eU {a b:D}:eqD a b=true↔a=b:=⟨fV,fun h=>by subst h; exact uq _⟩
theorem mz {a b:D} (h:eqD a b=false):a≠b:=fun e=>by
 rw [eU.mpr e] at h
 cases h
def klt:D→D→Bool
 | .bl a=>fun e=>match e with | .bl b=>!a && b | _=>false
 | .int a=>fun e=>match e with | .int b=>decide (a < b) | _=>false
 | .str x=>fun e=>match e with | .str y=>decide (x.cps.toList < y.cps.toList) | _=>false
 | _=>fun _=>false
def Cz (a b:D):Bool:=decide (cT a < cT b) || klt a b
mutual
noncomputable def dlt:D→D→Bool
 | .tup xs=>fun e=>match e with | .tup ys=>rY xs ys | _=>false
 | .non=>Cz .non
 | .bl b=>Cz (.bl b)
 | .int i=>Cz (.int i)
 | .str x=>Cz (.str x)
noncomputable def rY:List D→List D→Bool
 | []=>fun ys=>match ys with | []=>false | _ :: _=>true
 | x :: xs=>fun ys=>match ys with | []=>false | y :: ys=>if eqD x y=true then rY xs ys else dlt x y
end
theorem uh (a b:Int):dlt (.int a) (.int b)=decide (a < b):=rfl
theorem yF (x y:Str):dlt (.str x) (.str y)=decide (x.cps.toList < y.cps.toList):=rfl
theorem yM (xs ys:List D):dlt (.tup xs) (.tup ys)=rY xs ys:=rfl
theorem Jo (y:D) (ys:List D):rY [] (y :: ys)=true:=rfl
theorem Je (x:D) (xs:List D):rY (x :: xs) []=false:=rfl
theorem pH (x y:D) (xs ys:List D):rY (x :: xs) (y :: ys)=if eqD x y=true then rY xs ys else dlt x y:=rfl
theorem Ie {x y:Str} (h1:¬ x.cps.toList < y.cps.toList) (h2:¬ y.cps.toList < x.cps.toList):x=y :=
 HN (List.le_antisymm (List.not_lt.mp h2) (List.not_lt.mp h1))
theorem ff {P:Prop} (h:false=true):P:=Bool.noConfusion h
theorem Mr {P:D→D→Prop} (h1:P (.bl false) (.bl true)) (h2:∀ i j:Int,i < j→P (.int i) (.int j)) (h3:∀ x y:Str,x.cps.toList < y.cps.toList→P (.str x) (.str y)):∀ {a b:D},klt a b=true→P a b:=by
 intro a b h
 cases a with
 | bl p =>
  cases b with
  | bl q=>cases p <;> cases q <;> first | exact h1 | exact ff h
  | non=>exact ff h
  | int _=>exact ff h
  | str _=>exact ff h
  | tup _=>exact ff h
 | int p =>
  cases b with
  | int q=>exact h2 p q (of_decide_eq_true h)
  | non=>exact ff h
  | bl _=>exact ff h
  | str _=>exact ff h
  | tup _=>exact ff h
 | str p =>
  cases b with
  | str q=>exact h3 p q (of_decide_eq_true h)
  | non=>exact ff h
  | bl _=>exact ff h
  | int _=>exact ff h
  | tup _=>exact ff h
 | non=>exact ff h
 | tup _=>exact ff h
theorem vH {a b:D} (h:klt a b=true):cT a=cT b∧cT a < 4:=Mr (P:=fun a b=>cT a=cT b∧cT a < 4) ⟨rfl,by decide⟩ (fun _ _ _=>⟨rfl,by show 2 < 4; decide⟩) (fun _ _ _=>⟨rfl,by show 3 < 4; decide⟩) h
theorem MP {a b c:D} (h:klt a b=true):klt b c=true→klt a c=true:=Mr (P:=fun a b=>klt b c=true→klt a c=true) (fun h=>by cases c <;> exact ff h)
 (fun i j hij h=>by
  cases c with
  | int k=>exact decide_eq_true (Int.lt_trans hij (of_decide_eq_true h))
  | _=>exact ff h)
 (fun x y hxy h=>by
  cases c with
  | str z=>exact decide_eq_true (List.lt_trans hxy (of_decide_eq_true h))
  | _=>exact ff h) h
theorem Aa {a b:D} (h:Cz a b=true):cT a < cT b∨klt a b=true:=(Bool.or_eq_true _ _ ▸ h:_∨_).imp of_decide_eq_true id
theorem vM {a b:D} (h:cT a < cT b):Cz a b=true:=by unfold Cz; rw [decide_eq_true h]; rfl
theorem zR {a b:D} (h:klt a b=true):Cz a b=true:=by unfold Cz; rw [h,Bool.or_true]
theorem Af:∀ {a:D} (b:D),cT a < 4→dlt a b=Cz a b
 | .non,_,_=>rfl
 | .bl _,_,_=>rfl
 | .int _,_,_=>rfl
 | .str _,_,_=>rfl
 | .tup _,_,h=>absurd h (by show ¬ 4 < 4; decide)
theorem Bx {xs:List D} {b:D} (h:dlt (.tup xs) b=true):∃ ys,b=.tup ys∧rY xs ys=true:=by
 cases b with
 | tup ys=>exact ⟨ys,rfl,h⟩
 | _=>exact ff h
theorem GP {a:D} (h:¬ cT a < 4):∃ xs,a=.tup xs:=by
 cases a with
 | tup xs=>exact ⟨xs,rfl⟩
 | non=>exact absurd (show 0 < 4 by decide) h
 | bl _=>exact absurd (show 1 < 4 by decide) h
 | int _=>exact absurd (show 2 < 4 by decide) h
 | str _=>exact absurd (show 3 < 4 by decide) h
theorem Dg {a b:D} (h:dlt a b=true):cT a≤cT b:=by
 by_cases ha:cT a < 4
 ·rw [Af b ha] at h
  rcases Aa h with h | h
  ·omega
  ·exact Nat.le_of_eq (vH h).1
 ·obtain ⟨xs,rfl⟩:=GP ha
  obtain ⟨ys,rfl,_⟩:=Bx h
  exact Nat.le_refl _
theorem tr0 {a b c:D} (ha:cT a < 4) (h1:dlt a b=true) (h2:dlt b c=true):dlt a c=true:=by
 rw [Af _ ha] at h1 ⊢
 have hr:=Dg h2
 rcases Aa h1 with h | h
 ·exact vM (Nat.lt_of_lt_of_le h hr)
 ·have hk:=vH h
  rw [Af _ (by rw [← hk.1]; exact hk.2)] at h2
  rcases Aa h2 with q | q
  ·exact vM (by rw [hk.1]; exact q)
  ·exact zR (MP h q)
theorem KZ:∀ {a:D} (b:D),cT a < 4→dlt a b=false→dlt b a=false→a=b:=by
 intro a b ha h1 h2
 rw [Af _ ha] at h1
 have k1:¬ cT a < cT b:=fun z=>by rw [vM z] at h1; cases h1
 have hb:cT b < 4:=by omega
 rw [Af _ hb] at h2
 have k2:¬ cT b < cT a:=fun z=>by rw [vM z] at h2; cases h2
 have q1:klt a b=false:=by
  cases h:klt a b with
  | false=>rfl
  | true=>rw [zR h] at h1; cases h1
 have q2:klt b a=false:=by
  cases h:klt b a with
  | false=>rfl
  | true=>rw [zR h] at h2; cases h2
 have e:cT a=cT b:=by omega
 clear h1 h2 k1 k2 hb
 cases a with
 | non=>cases b <;> first | rfl | exact absurd e (Nat.ne_of_beq_eq_false rfl)
 | bl p =>
  cases b with
  | bl q=>cases p <;> cases q <;> first | rfl | exact ff q1.symm | exact ff q2.symm
  | _=>exact absurd e (Nat.ne_of_beq_eq_false rfl)
 | int p =>
  cases b with
  | int q=>exact congrArg D.int (Int.le_antisymm (Int.not_lt.mp (of_decide_eq_false q2)) (Int.not_lt.mp (of_decide_eq_false q1)))
  | _=>exact absurd e (Nat.ne_of_beq_eq_false rfl)
 | str p =>
  cases b with
  | str q=>exact congrArg D.str (Ie (of_decide_eq_false q1) (of_decide_eq_false q2))
  | _=>exact absurd e (Nat.ne_of_beq_eq_false rfl)
 | tup _=>exact absurd ha (by show ¬ 4 < 4; decide)
mutual
theorem tu:∀ d:D,dlt d d=false
 | .non=>rfl
 | .bl b=>by cases b <;> rfl
 | .int i=>decide_eq_false (Int.lt_irrefl i)
 | .str x=>decide_eq_false (List.lt_irrefl _)
 | .tup xs=>vC xs
theorem vC:∀ ds:List D,rY ds ds=false
 | []=>rfl
 | d :: ds=>by rw [pH,if_pos (uq d)]; exact vC ds
end
mutual
theorem ju:∀ a b:D,dlt a b=false→dlt b a=false→a=b
 | .non,b,h1,h2=>KZ b (by show 0 < 4; decide) h1 h2
 | .bl x,b,h1,h2=>KZ b (by show 1 < 4; decide) h1 h2
 | .int x,b,h1,h2=>KZ b (by show 2 < 4; decide) h1 h2
 | .str x,b,h1,h2=>KZ b (by show 3 < 4; decide) h1 h2
 | .tup xs,b,h1,h2=>by
  by_cases hb:cT b < 4
  ·exact (KZ (.tup xs) hb h2 h1).symm
  ·obtain ⟨ys,rfl⟩:=GP hb
   exact congrArg D.tup (vp xs ys h1 h2)
theorem vp:∀ a b:List D,rY a b=false→rY b a=false→a=b
 | [],[],_,_=>rfl
 | [],_ :: _,h1,_=>ff h1.symm
 | _ :: _,[],_,h2=>ff h2.symm
 | x :: xs,y :: ys,h1,h2=>by
  rw [pH] at h1 h2
  cases he:eqD x y with
  | true =>
   have e:=fV he
   subst e
   rw [if_pos he] at h1 h2
   rw [vp xs ys h1 h2]
  | false =>
   rw [if_neg (fun z=>mz he (fV z))] at h1
   rw [if_neg (fun z=>mz he (fV z).symm)] at h2
   exact absurd (ju x y h1 h2) (mz he)
end
mutual
theorem vV:∀ a b c:D,dlt a b=true→dlt b c=true→dlt a c=true
 | .non,b,c,h1,h2=>tr0 (by show 0 < 4; decide) h1 h2
 | .bl x,b,c,h1,h2=>tr0 (by show 1 < 4; decide) h1 h2
 | .int x,b,c,h1,h2=>tr0 (by show 2 < 4; decide) h1 h2
 | .str x,b,c,h1,h2=>tr0 (by show 3 < 4; decide) h1 h2
 | .tup xs,b,c,h1,h2=>by
  obtain ⟨ys,rfl,q1⟩:=Bx h1
  obtain ⟨zs,rfl,q2⟩:=Bx h2
  exact xT xs ys zs q1 q2
theorem xT:∀ a b c:List D,rY a b=true→rY b c=true→rY a c=true
 | [],[],_,h1,_=>ff h1
 | [],_ :: _,[],_,h2=>ff h2
 | [],_ :: _,_ :: _,_,_=>rfl
 | _ :: _,[],_,h1,_=>ff h1
 | _ :: _,_ :: _,[],_,h2=>ff h2
 | x :: xs,y :: ys,z :: zs,h1,h2=>by
  rw [pH] at h1 h2 ⊢
  cases hxy:eqD x y with
  | true =>
   have e:=fV hxy
   subst e
   rw [if_pos hxy] at h1
   cases hxz:eqD x z with
   | true =>
    rw [if_pos hxz] at h2
    rw [if_pos rfl]
    exact xT xs ys zs h1 h2
   | false =>
    rw [if_neg (fun z=>mz hxz (fV z))] at h2
    rw [if_neg Bool.false_ne_true]
    exact h2
  | false =>
   rw [if_neg (fun z=>mz hxy (fV z))] at h1
   cases hyz:eqD y z with
   | true =>
    have e:=fV hyz
    subst e
    rw [if_neg (fun z=>mz hxy (fV z))]
    exact h1
   | false =>
    rw [if_neg (fun z=>mz hyz (fV z))] at h2
    have g:=vV x y z h1 h2
    rw [if_neg]
    ·exact g
    ·intro z'
     have e:=fV z'
     subst e
     rw [tu] at g
     cases g
end
noncomputable def JR:KeyOrd where
 α:=D
 blt:=dlt
 irrefl:=tu
 trans:=vV
 negTrans:=fun a b c h=>by
  cases h1:dlt a b with
  | true=>exact .inl rfl
  | false =>
   cases h2:dlt b a with
   | true=>exact .inr (vV b a c h2 h)
   | false =>
    have e:=ju a b h1 h2
    subst e
    exact .inr h
 total:=ju
end L2
set_option maxHeartbeats 200000
namespace L2
open PySem PySem.Spec PyProof.Rows
def UpD (ds:List D):Prop:=ds.Pairwise fun a b=>dlt b a=false
theorem gK {xs ys:List D} (hx:UpD xs) (hy:UpD ys) (h:xs.Perm ys):xs=ys :=
 h.eq_of_pairwise (fun a b _ _ h1 h2=>ju a b h2 h1) hx hy
mutual
def Sim:D→D→Prop
 | .int _=>fun e=>match e with | .int _=>True | _=>False
 | .str _=>fun e=>match e with | .str _=>True | _=>False
 | .tup xs=>fun e=>match e with | .tup ys=>ud xs ys | _=>False
 | _=>fun _=>False
def ud:List D→List D→Prop
 | []=>fun _=>True
 | x :: xs=>fun ys=>match ys with | []=>True | y :: ys=>Sim x y∧ud xs ys
end
theorem wR {xs ys:List D} (h:ud xs ys):Sim (.tup xs) (.tup ys):=h
theorem jL {xs ys:List D} (h:Sim (.tup xs) (.tup ys)):ud xs ys:=h
theorem gW {x y:D} {xs ys:List D} (h:Sim x y) (k:ud xs ys):ud (x :: xs) (y :: ys):=⟨h,k⟩
theorem jj {x y:D} {xs ys:List D} (h:ud (x :: xs) (y :: ys)):Sim x y∧ud xs ys:=h
theorem uG (ys:List D):ud [] ys:=trivial
theorem Lg (xs:List D):ud xs []:=by cases xs <;> exact trivial
theorem ud.at_:∀ {xs ys:List D} {i:Nat} {x y:D},ud xs ys→xs[i]?=some x→ys[i]?=some y→Sim x y
 | [],_,i,x,y,_,hx,_=>by simp at hx
 | _ :: _,[],i,x,y,_,_,hy=>by simp at hy
 | a :: xs,b :: ys,0,x,y,h,hx,hy=>by
  simp at hx hy
  subst hx; subst hy
  exact (jj h).1
 | a :: xs,b :: ys,i+1,x,y,h,hx,hy=>by
  exact ud.at_ (i:=i) (jj h).2 (by simpa using hx) (by simpa using hy)
mutual
theorem Den.det {H:Hp}:∀ {d e:D} {v:V},Den H v d→Den H v e→d=e
 | .non,e,v,h1,h2=>by
  have:v=.non:=h1
  subst this
  cases e with
  | non=>rfl
  | tup ds=>obtain ⟨p,vs,z,_⟩:=aN h2; cases z
  | bl b=>exact absurd (show V.non=.bl b from h2) (fun z=>nomatch z)
  | int b=>exact absurd (show V.non=.int b from h2) (fun z=>nomatch z)
  | str b=>exact absurd (show V.non=.str b from h2) (fun z=>nomatch z)
 | .bl b,e,v,h1,h2=>by
  have:v=.bl b:=h1
  subst this
  cases e with
  | bl c=>have z:V.bl b=.bl c:=h2; cases z; rfl
  | tup ds=>obtain ⟨p,vs,z,_⟩:=aN h2; cases z
  | non=>exact absurd (show V.bl b=.non from h2) (fun z=>nomatch z)
  | int c=>exact absurd (show V.bl b=.int c from h2) (fun z=>nomatch z)
  | str c=>exact absurd (show V.bl b=.str c from h2) (fun z=>nomatch z)
 | .int b,e,v,h1,h2=>by
  have:v=.int b:=h1
  subst this
  cases e with
  | int c=>have z:V.int b=.int c:=h2; cases z; rfl
  | tup ds=>obtain ⟨p,vs,z,_⟩:=aN h2; cases z
  | non=>exact absurd (show V.int b=.non from h2) (fun z=>nomatch z)
  | bl c=>exact absurd (show V.int b=.bl c from h2) (fun z=>nomatch z)
  | str c=>exact absurd (show V.int b=.str c from h2) (fun z=>nomatch z)
 | .str b,e,v,h1,h2=>by
  have:v=.str b:=h1
  subst this
  cases e with
  | str c=>have z:V.str b=.str c:=h2; cases z; rfl
  | tup ds=>obtain ⟨p,vs,z,_⟩:=aN h2; cases z
  | non=>exact absurd (show V.str b=.non from h2) (fun z=>nomatch z)
  | bl c=>exact absurd (show V.str b=.bl c from h2) (fun z=>nomatch z)
  | int c=>exact absurd (show V.str b=.int c from h2) (fun z=>nomatch z)
 | .tup ds,e,v,h1,h2=>by
  obtain ⟨p,vs,rfl,hp,hd⟩:=aN h1
  cases e with
  | tup es =>
   obtain ⟨q,us,z,hq,he⟩:=aN h2
   cases z
   rw [hp] at hq
   cases hq
   rw [bI.det hd he]
  | non=>exact absurd (show V.ref p=.non from h2) (fun z=>nomatch z)
  | bl c=>exact absurd (show V.ref p=.bl c from h2) (fun z=>nomatch z)
  | int c=>exact absurd (show V.ref p=.int c from h2) (fun z=>nomatch z)
  | str c=>exact absurd (show V.ref p=.str c from h2) (fun z=>nomatch z)
theorem bI.det {H:Hp}:∀ {ds es:List D} {vs:List V},bI H vs ds→bI H vs es→ds=es
 | [],[],_,_,_=>rfl
 | [],_ :: _,[],_,h=>h.elim
 | [],_ :: _,_ :: _,h,_=>h.elim
 | _ :: _,[],[],h,_=>h.elim
 | _ :: _,[],_ :: _,_,h=>h.elim
 | _ :: _,_ :: _,[],h,_=>h.elim
 | d :: ds,e :: es,v :: vs,h1,h2=>by rw [Den.det h1.1 h2.1,bI.det h1.2 h2.2]
end
open SeqAt (mD)
theorem uU (e f:Nat→Bool) (fin:Bool):∀ r:List Nat,mD e f fin (r.map Nat.succ)=mD (fun i=>e (i+1)) (fun i=>f (i+1)) fin r
 | []=>rfl
 | i :: r=>by
  show (if e (i+1)=true then mD e f fin (r.map Nat.succ) else f (i+1))=_
  rw [uU e f fin r]
  rfl
theorem j6:∀ xs ys:List D,mD (fun j=>eqD (xs.getD j .non) (ys.getD j .non)) (fun j=>dlt (xs.getD j .non) (ys.getD j .non)) (decide (xs.length < ys.length)) (List.range (min xs.length ys.length))=rY xs ys
 | [],[]=>rfl
 | [],y :: ys=>by rw [Jo]; simp [mD]
 | x :: xs,[]=>by rw [Je]; simp [mD]
 | x :: xs,y :: ys=>by
  have ih:=j6 xs ys
  rw [pH,show min (x :: xs).length (y :: ys).length=min xs.length ys.length+1 by simp only [List.length_cons]; omega,List.range_succ_eq_map]
  show (if eqD x y=true then mD _ _ _ ((List.range (min xs.length ys.length)).map Nat.succ) else dlt x y)=_
  rw [uU]
  have ed:decide ((x :: xs).length < (y :: ys).length)=decide (xs.length < ys.length):=by simp
  rw [ed]
  cases he:eqD x y with
  | true =>
   rw [if_pos rfl,if_pos rfl]
   simpa using ih
  | false =>
   rw [if_neg (by simp),if_neg (by simp)]
theorem allR_eq:∀ xs ys:List D,((List.range (min xs.length ys.length)).all (fun j=>eqD (xs.getD j .non) (ys.getD j .non)) && xs.length == ys.length)=eqD (.tup xs) (.tup ys):=by
 intro xs ys
 rw [Bool.eq_iff_iff,eU]
 constructor
 ·intro h
  simp only [Bool.and_eq_true,List.all_eq_true,List.mem_range,beq_iff_eq] at h
  obtain ⟨h1,h2⟩:=h
  congr 1
  apply List.ext_getElem h2
  intro i a b
  have:=eU.mp (h1 i (by omega))
  simpa [List.getD_eq_getElem?_getD,a,b] using this
 ·intro h
  injection h with h
  subst h
  simp [eU]
end L2
namespace L2
open PySem PySem.Spec PyProof.Rows
section
variable {X:Cx} {pins:List (Addr × Obj)} {σ:St} {H:Hp} {s:Shared}
theorem jX {h h':Heap} {a:Addr} {its:Array Value} (k:SO.Keeps h h') (t:h.IsTuple a its):h'.IsTuple a its:=by
 obtain ⟨o,e,r⟩:=t
 exact ⟨o,k _ _ e,r⟩
theorem BK {s':Shared} {i j:Int} {A:Around} {x y:V} {v u:Value} (hx:Den H x (.int i)) (hy:Den H y (.int j)) (rx:RelV x v) (ry:RelV y u):SeqAt.EqAt A s' v u (eqD (.int i) (.int j)):=by
 have e1:x=.int i:=hx
 have e2:y=.int j:=hy
 subst e1
 subst e2
 obtain ⟨t,rfl⟩:=rx
 obtain ⟨t',rfl⟩:=ry
 have key:=SeqAt.EqAt.int_int (A:=A) (s:=s') i t j t'
 have e:(i == j)=eqD (.int i) (.int j):=by
  rw [Bool.eq_iff_iff,eU,beq_iff_eq]
  exact ⟨fun z=>by rw [z],fun z=>by injection z⟩
 rw [← e]
 exact key
theorem Bo {s':Shared} {i j:Str} {A:Around} {x y:V} {v u:Value} (hx:Den H x (.str i)) (hy:Den H y (.str j)) (rx:RelV x v) (ry:RelV y u):SeqAt.EqAt A s' v u (eqD (.str i) (.str j)):=by
 have e1:x=.str i:=hx
 have e2:y=.str j:=hy
 subst e1
 subst e2
 obtain ⟨t,rfl⟩:=rx
 obtain ⟨t',rfl⟩:=ry
 have key:=SeqAt.EqAt.str_str (A:=A) (s:=s') i t j t'
 have e:(i == j)=eqD (.str i) (.str j):=by
  rw [Bool.eq_iff_iff,eU,beq_iff_eq]
  exact ⟨fun z=>by rw [z],fun z=>by injection z⟩
 rw [← e]
 exact key
theorem Ax {s':Shared} {i j:Int} {A:Around} {x y:V} {v u:Value} (hx:Den H x (.int i)) (hy:Den H y (.int j)) (rx:RelV x v) (ry:RelV y u):SeqAt.xq A s' v u (dlt (.int i) (.int j)):=by
 have e1:x=.int i:=hx
 have e2:y=.int j:=hy
 subst e1
 subst e2
 obtain ⟨t,rfl⟩:=rx
 obtain ⟨t',rfl⟩:=ry
 intro prog w E Q h
 rw [uh] at h
 exact PyProof.Rows.lt_int h
theorem zj {s':Shared} {i j:Str} {A:Around} {x y:V} {v u:Value} (hx:Den H x (.str i)) (hy:Den H y (.str j)) (rx:RelV x v) (ry:RelV y u):SeqAt.xq A s' v u (dlt (.str i) (.str j)):=by
 have e1:x=.str i:=hx
 have e2:y=.str j:=hy
 subst e1
 subst e2
 obtain ⟨t,rfl⟩:=rx
 obtain ⟨t',rfl⟩:=ry
 intro prog w E Q h
 rw [yF] at h
 exact PyProof.Rows.lt_str h
def Qe (H:Hp) (s':Shared) (n:Nat):Prop :=
 ∀ (d e:D) (A:Around) (x y:V) (v u:Value),eO n d→eO n e→Sim d e→Den H x d→Den H y e→RelV x v→RelV y u→A.units+n < cLine→SeqAt.EqAt A s' v u (eqD d e)∧SeqAt.xq A s' v u (dlt d e)
theorem Dv (I:Inv X pins σ H s) {s':Shared} (kp:SO.Keeps s.heap s'.heap) {n:Nat} (ih:Qe H s' n) {ds es:List D} {A:Around} {x y:V} {v u:Value} (hs:eO (n+1) (.tup ds)) (hs2:eO (n+1) (.tup es))
  (hm:Sim (.tup ds) (.tup es)) (hx:Den H x (.tup ds)) (hy:Den H y (.tup es)) (rx:RelV x v) (ry:RelV y u) (hu:A.units+(n+1) < cLine):SeqAt.EqAt A s' v u (eqD (.tup ds) (.tup es))∧SeqAt.xq A s' v u (dlt (.tup ds) (.tup es)):=by
 obtain ⟨a,vs,rfl,ha,hda⟩:=aN hx
 obtain ⟨b,us,rfl,hb,hdb⟩:=aN hy
 cases rx
 cases ry
 obtain ⟨its,r1,p1,_⟩:=I.tuple (SqT.of (K:=X.K) ha)
 obtain ⟨its2,r2,p2,_⟩:=I.tuple (SqT.of (K:=X.K) hb)
 have l1:=hda.len
 have l2:=hdb.len
 have m1:=r1.length
 have m2:=r2.length
 replace hm:=jL hm
 have both:∀ j (h1:j < its.toArray.size) (h2:j < its2.toArray.size),SeqAt.EqAt A.in1 s' its.toArray[j] its2.toArray[j] (eqD (ds.getD j .non) (es.getD j .non))∧SeqAt.xq A.in1 s' its.toArray[j] its2.toArray[j] (dlt (ds.getD j .non) (es.getD j .non)):=by
  intro j h1 h2
  have hj1:j < vs.length:=by simpa [m1] using h1
  have hj2:j < us.length:=by simpa [m2] using h2
  obtain ⟨d1,g1,b1⟩:=hda.at_ (List.getElem?_eq_getElem hj1)
  obtain ⟨d2,g2,b2⟩:=hdb.at_ (List.getElem?_eq_getElem hj2)
  obtain ⟨w1,hw1,rw1⟩:=r1.get (List.getElem?_eq_getElem hj1)
  obtain ⟨w2,hw2,rw2⟩:=r2.get (List.getElem?_eq_getElem hj2)
  have q1:its.toArray[j]=w1:=by
   have:=(List.getElem?_eq_some_iff.mp hw1).2
   simpa using this
  have q2:its2.toArray[j]=w2:=by
   have:=(List.getElem?_eq_some_iff.mp hw2).2
   simpa using this
  rw [q1,q2]
  rw [List.getD_eq_getElem?_getD,List.getD_eq_getElem?_getD,g1,g2]
  have s1:=(hs.2 ds rfl).2 d1 (List.mem_of_getElem? g1)
  have s2:=(hs2.2 es rfl).2 d2 (List.mem_of_getElem? g2)
  exact ih d1 d2 A.in1 _ _ _ _ s1 s2 (hm.at_ g1 g2) b1 b2 rw1 rw2 (by first | (simp only [Around.in1]; omega) | omega)
 constructor
 ·by_cases hab:a=b
  ·subst hab
   have e:=Den.det hx hy
   rw [eU.mpr e]
   exact SeqAt.EqAt.same _
  ·have key:=SeqAt.EqAt.of_refs hab (SeqAt.RcAt.tuples (A:=A) (s:=s') (e:=fun j=>eqD (ds.getD j .non) (es.getD j .non)) (jX kp p1) (jX kp p2) (by omega) fun j h1 h2=>(both j h1 h2).1)
   have q:=allR_eq ds es
   rw [show ds.length=its.toArray.size by simp; omega,show es.length=its2.toArray.size by simp; omega] at q
   rw [q] at key
   exact key
 ·have key:=SeqAt.xq.tuples (A:=A) (s:=s') (e:=fun j=>eqD (ds.getD j .non) (es.getD j .non)) (f:=fun j=>dlt (ds.getD j .non) (es.getD j .non)) (jX kp p1) (jX kp p2) (by omega)
   (fun j h1 h2=>(both j h1 h2).1) (fun j h1 h2 _=>(both j h1 h2).2)
  have q:=j6 ds es
  rw [show ds.length=its.toArray.size by simp; omega,show es.length=its2.toArray.size by simp; omega] at q
  rw [q] at key
  rw [yM]
  exact key
theorem fY {P:D→D→Prop} (hi:∀ i j,P (.int i) (.int j)) (hs:∀ i j,P (.str i) (.str j)) (ht:∀ xs ys,ud xs ys→P (.tup xs) (.tup ys)):∀ {d e:D},Sim d e→P d e:=by
 intro d e h
 cases d <;> cases e <;> first | exact hi _ _ | exact hs _ _ | exact ht _ _ (jL h) | exact False.elim h
theorem Py (I:Inv X pins σ H s) {s':Shared} (kp:SO.Keeps s.heap s'.heap):∀ n:Nat,Qe H s' n:=by
 intro n
 induction n with
 | zero =>
  intro d e A x y v u hs hs2 hm
  revert hs hs2
  refine fY (P:=fun d e=>eO 0 d→eO 0 e→Den H x d→Den H y e→RelV x v→RelV y u→A.units+0 < cLine→SeqAt.EqAt A s' v u (eqD d e)∧SeqAt.xq A s' v u (dlt d e)) ?_ ?_ ?_ hm
  ·exact fun i j _ _ hx hy rx ry _=>⟨BK hx hy rx ry,Ax hx hy rx ry⟩
  ·exact fun i j _ _ hx hy rx ry _=>⟨Bo hx hy rx ry,zj hx hy rx ry⟩
  ·exact fun xs ys _ hs _ _ _ _ _ _=>absurd rfl (hs.2 xs)
 | succ n ih =>
  intro d e A x y v u hs hs2 hm
  revert hs hs2
  refine fY (P:=fun d e=>eO (n+1) d→eO (n+1) e→Den H x d→Den H y e→RelV x v→RelV y u→A.units+(n+1) < cLine→SeqAt.EqAt A s' v u (eqD d e)∧SeqAt.xq A s' v u (dlt d e)) ?_ ?_ ?_ hm
  ·exact fun i j _ _ hx hy rx ry _=>⟨BK hx hy rx ry,Ax hx hy rx ry⟩
  ·exact fun i j _ _ hx hy rx ry _=>⟨Bo hx hy rx ry,zj hx hy rx ry⟩
  ·exact fun xs ys hm hs hs2 hx hy rx ry hu=>Dv I kp ih hs hs2 (wR hm) hx hy rx ry hu
end
end L2
set_option maxHeartbeats 400000
namespace SO
open PySem PySem.W PyProof.Rows
section
variable {prog:Program} {w:World} {A:Around} {E:Value→Shared→Prop} {s:Shared}
theorem sH {l:Addr} {c:String} {vs:List Value} {o:Obj} {n:Nat} {Q:List Value→Shared→Prop} (ho:s.heap.get? l=some o) (hc:o.cls=.type c) (hcc:c = "list"∨c = "tuple") (hd:o.data=.seq vs.toArray n)
  (h:Q vs { s with heap:=(s.heap.push (seqObj "list" #[] 0)).update s.heap.objs.size (Obj.mapSeq (· ++ vs.toArray)) }) (hsz:vs.length≤sizeLine) :
  wpAny (model prog w) A (collect (.ref l)) Q E s:=by
 unfold collect
 refine wpAny_bind (wpAny_runValue (codeAny_builtin entry_proto_collect' ?_))
 show wpAny _ _ (do again (.builtin "list.__iadd__" ⟨[← newList [],.ref l],[]⟩)) _ _ s
 refine wpAny_bind (wpAny_newList (wpAny_pure ⟨Code.quiet_builtin _ (by decide +kernel),codeAny_builtin entry_list_iadd' ?_⟩))
 show wpAny _ _ (Builtin.List.listExtendWith (.ref s.heap.objs.size) (.ref l) (.ref s.heap.objs.size)) _ _ { s with heap:=s.heap.push (seqObj "list" #[] 0) }
 unfold Builtin.List.listExtendWith
 have ho':(s.heap.push (seqObj "list" #[] 0)).get? l=some o:=Heap.get?_push_of_some _ ho
 refine wpAny_bind (wpAny_typeOf (T:=c) ⟨o,ho',hc⟩ ?_)
 rw [if_pos (by rcases hcc with rfl | rfl <;> simp)]
 refine wpAny_bind (listItems_at ho' hd ?_)
 refine wpAny_bind (listItems_at (xs:=#[]) (n:=0) (Heap.get?_push_size _ rfl) rfl ?_)
 rw [if_neg (by simp)]
 refine wpAny_bind (listUpdate_at (xs:=#[]) (n:=0) (Heap.get?_push_size _ rfl) rfl ?_ (Nat.zero_le _) (by show (#[]++vs.toArray).size≤sizeLine+1; simp only [Array.size_append,List.size_toArray,List.length_nil]; omega))
 refine wpAny_pure ?_
 show wpAny (model prog w) A (do
   let o ← load s.heap.objs.size
   match o.data with
   | .seq xs _=>pure xs.toList
   | _=>unsupported "internal:collect") Q E { s with heap:=(s.heap.push (seqObj "list" #[] 0)).update s.heap.objs.size (Obj.mapSeq (· ++ vs.toArray)) }
 refine wpAny_bind (wpAny_load (get?_update_seq (Heap.get?_push_size _ rfl) _) ?_)
 show wpAny _ _ (pure ((#[]:Array Value)++vs.toArray).toList) Q E _
 rw [show ((#[]:Array Value)++vs.toArray).toList=vs by simp]
 exact wpAny_pure h
theorem Ar {b fin:Bool} {Q:Bool→Shared→Prop} {e f:Nat→Bool}:∀ (l:List (Value × Value)) (i:Nat),(∀ j p q,l[j]?=some (p,q)→SeqAt.EqAt A s p q (e (i+j))) →
  (∀ j p q,l[j]?=some (p,q)→e (i+j)=false→∀ (Q:Bool→Shared→Prop) (E:Value→Shared→Prop),Q (f (i+j)) s→wpAny (model prog w) A (oneLt' (b && (i+j) == 0) p q) Q E s) →
  Q (SeqAt.mD e f fin (List.range' i l.length)) s→KatLex prog w A b fin Q l i s
 | [],i,_,_,h=>kat_nil h
 | (p,q) :: l,i,he,hf,h=>by
  refine kat_cons ((he 0 p q rfl) prog w _ _ ?_)
  rw [Nat.add_zero]
  have h':Q (if e i=true then SeqAt.mD e f fin (List.range' (i+1) l.length) else f i) s:=h
  cases hy:e i with
  | true =>
   rw [hy,if_pos rfl] at h'
   exact kat_yes (Ar l (i+1) (fun j p q z=>by rw [show i+1+j=i+(j+1) by omega]; exact he (j+1) p q (by simpa using z)) (fun j p q z=>by rw [show i+1+j=i+(j+1) by omega]; exact hf (j+1) p q (by simpa using z)) h')
  | false =>
   rw [hy,if_neg (by simp)] at h'
   exact kat_no (by have:=hf 0 p q rfl (by simpa using hy) Q (fun _ _=>False) (by simpa using h'); simpa using this)
end
end SO
namespace L2
open PySem PySem.Spec PyProof.Rows
open SeqAt (mD)
def Hom (ds:List D):Prop:=(∀ a∈ds,∀ b∈ds,Sim a b)∧((∀ d∈ds,∃ i,d=.int i)∨(∀ d∈ds,∃ x,d=.str x)∨(∀ d∈ds,∃ e r,d=.tup (e :: r)))
def Li (K:PySem.W.Frag):List V→Hp→VK→Prop:=fun xs H Q=>∃ (p:Addr) (vs:List V) (ds:List D),xs=[.ref p]∧(SqL K H p vs∨SqT K H p vs)∧bI H vs ds∧Hom ds∧ds.length < 64∧(∀ d∈ds,eO 50 d) ∧
 ∀ (l:Addr) (us:List V) (ds':List D),H l=none→ds'.Perm ds→UpD ds'→bI H us ds'→Q (.ref l) (upd H l (.lst us))
theorem oV {H:Hp} {vs:List V} {ds:List D} (h:bI H vs ds):∀ l:List Nat,(∀ i∈l,i < ds.length)→bI H (l.map fun i=>vs.getD i .non) (l.map fun i=>ds.getD i .non)
 | [],_=>trivial
 | i :: l,hl=>by
  refine ⟨?_,oV h l fun j hj=>hl j (.tail _ hj)⟩
  have hi:i < vs.length:=by rw [h.len]; exact hl i (.head _)
  obtain ⟨d,hd,r⟩:=h.at_ (List.getElem?_eq_getElem hi)
  dsimp only
  rw [List.getD_eq_getElem?_getD,List.getD_eq_getElem?_getD,hd,List.getElem?_eq_getElem hi]
  exact r
theorem oZ {vs:List V} {its:List Value} (h:Vals vs its):∀ l:List Nat,(∀ i∈l,i < vs.length)→Vals (l.map fun i=>vs.getD i .non) (l.map fun i=>its.getD i Value.none)
 | [],_=>.nil
 | i :: l,hl=>by
  refine .cons ?_ (oZ h l fun j hj=>hl j (.tail _ hj))
  have hi:i < vs.length:=hl i (.head _)
  obtain ⟨d,hd,r⟩:=h.get (List.getElem?_eq_getElem hi)
  dsimp only
  rw [List.getD_eq_getElem?_getD,List.getD_eq_getElem?_getD,hd,List.getElem?_eq_getElem hi]
  exact r
section
variable {X:Cx} {pins:List (Addr × Obj)} {σ:St} {H:Hp} {s:Shared}
theorem at3 {vs:List V} {ds:List D} {its:List Value} (hd:bI H vs ds) (r:Vals vs its) {i:Nat} (hi:i < ds.length):∃ (x:V) (v:Value),vs[i]?=some x∧its[i]?=some v∧its.getD i Value.none=v∧Den H x (ds.getD i .non)∧RelV x v∧ds.getD i .non∈ds:=by
 have hv:i < vs.length:=by rw [hd.len]; exact hi
 obtain ⟨d,g,b⟩:=hd.at_ (List.getElem?_eq_getElem hv)
 obtain ⟨u,hu,ru⟩:=r.get (List.getElem?_eq_getElem hv)
 have e:ds.getD i .non=d:=by rw [List.getD_eq_getElem?_getD,g]; rfl
 rw [e]
 exact ⟨_,u,List.getElem?_eq_getElem hv,hu,by rw [List.getD_eq_getElem?_getD,hu]; rfl,b,ru,List.mem_of_getElem? g⟩
theorem qF {s':Shared} {prog:Program} {w:World} {A:Around} {v u:Value} {b:Bool} (h:SeqAt.xq A s' v u b) (Q:Bool→Shared→Prop) (E:Value→Shared→Prop) (q:Q b s'):wpAny (model prog w) A (oneLt' false v u) Q E s' :=
 PySem.W.kat_one v u (h prog w E _ q)
theorem j8 {s':Shared} {prog:Program} {w:World} {A:Around} {x y:V} {d e:D} {v u:Value} (hm:Sim d e) (hd:Den H x d) (he:Den H y e) (rx:RelV x v) (ry:RelV y u) (nt:∀ ds,d≠.tup ds) (Q:Bool→Shared→Prop) (E:Value→Shared→Prop) (q:Q (dlt d e) s') :
  wpAny (model prog w) A (oneLt' true v u) Q E s':=by
 revert hd he nt q
 refine fY (P:=fun d e=>Den H x d→Den H y e→(∀ ds,d≠.tup ds)→Q (dlt d e) s'→wpAny (model prog w) A (oneLt' true v u) Q E s') ?_ ?_ ?_ hm
 ·intro i j hx hy _ q
  have e1:x=.int i:=hx
  have e2:y=.int j:=hy
  subst e1
  subst e2
  obtain ⟨t,rfl⟩:=rx
  obtain ⟨t',rfl⟩:=ry
  rw [uh] at q
  exact oneLt_int q
 ·intro i j hx hy _ q
  have e1:x=.str i:=hx
  have e2:y=.str j:=hy
  subst e1
  subst e2
  obtain ⟨t,rfl⟩:=rx
  obtain ⟨t',rfl⟩:=ry
  rw [yF] at q
  exact oneLt_str q
 ·intro xs ys _ _ _ nt _
  exact absurd rfl (nt xs)
theorem Ew {M:Model} {x:V} {v:Value} {d:D} (I:Inv X pins σ H s) {h':Heap} (kp:SO.Keeps s.heap h') (hd:Den H x d) (rx:RelV x v):(∀ i,d=.int i→PySem.W.Looks M h' (typeOf v) (.type "int"))∧(∀ i,d=.str i→PySem.W.Looks M h' (typeOf v) (.type "str")) ∧
  (∀ ds,d=.tup ds→PySem.W.Looks M h' (typeOf v) (.type "tuple")):=by
 refine ⟨fun i e=>?_,fun i e=>?_,fun ds e=>?_⟩
 ·subst e
  have e1:x=.int i:=hd
  subst e1
  obtain ⟨t,rfl⟩:=rx
  exact PySem.W.Looks.of_pure rfl
 ·subst e
  have e1:x=.str i:=hd
  subst e1
  obtain ⟨t,rfl⟩:=rx
  exact PySem.W.Looks.of_pure rfl
 ·subst e
  obtain ⟨a,vs,rfl,ha,hda⟩:=aN hd
  cases rx
  obtain ⟨its,r1,⟨o,eo,ec,_⟩,_⟩:=I.tuple (SqT.of (K:=X.K) ha)
  rw [← ec]
  exact (PySem.W.Looks.ld (kp _ _ eo)).andThen .now
def tyD:D→Value
 | .int _=>.type "int"
 | .str _=>.type "str"
 | _=>.type "tuple"
theorem Ao {d e:D} (h:Sim d e):tyD d=tyD e:=fY (P:=fun d e=>tyD d=tyD e) (fun _ _=>rfl) (fun _ _=>rfl) (fun _ _ _=>rfl) h
theorem uW (d:D):(tyD d == tyD d)=true:=by cases d <;> rfl
theorem yD {d e:D} (hm:Sim d e) (h:(tyD d != .type "tuple")=true):∀ ds,d≠.tup ds:=by
 intro ds z
 subst z
 exact absurd (show (Value.type "tuple" != Value.type "tuple")=true from h) (by decide)
theorem jY {M:Model} {x:V} {v:Value} {d e:D} (I:Inv X pins σ H s) {h':Heap} (kp:SO.Keeps s.heap h') (hm:Sim d e) (hd:Den H x d) (rx:RelV x v):PySem.W.Looks M h' (typeOf v) (tyD d):=by
 obtain ⟨a,b,c⟩:=Ew (M:=M) I kp hd rx
 revert a b c
 exact fY (P:=fun d e=>(∀ i,d=.int i→PySem.W.Looks M h' (typeOf v) (.type "int"))→(∀ i,d=.str i→PySem.W.Looks M h' (typeOf v) (.type "str"))→(∀ ds,d=.tup ds→PySem.W.Looks M h' (typeOf v) (.type "tuple"))→PySem.W.Looks M h' (typeOf v) (tyD d))
  (fun i _ a _ _=>a i rfl) (fun i _ _ b _=>b i rfl) (fun xs _ _ _ _ c=>c xs rfl) hm
theorem kat_tups (I:Inv X pins σ H s) {h':Heap} (kp:SO.Keeps s.heap h'):∀ {vs:List V} {ds:List D} {its:List Value},bI H vs ds→Vals vs its→(∀ d∈ds,∃ e r,d=.tup (e :: r)) →
  ∃ fs,PySem.W.KatTups h' its fs∧fs.length=its.length∧∀ v∈fs,∃ (x:V) (d:D) (r:List D),Den H x d∧RelV x v∧D.tup (d :: r)∈ds
 | [],[],_,_,.nil,_=>⟨[],trivial,rfl,fun v hv=>by cases hv⟩
 | x :: vs,d :: ds,_,hd,.cons r rr,ht=>by
  obtain ⟨fs,k,l,m⟩:=kat_tups I kp hd.2 rr fun d hd=>ht d (.tail _ hd)
  obtain ⟨e,r0,rfl⟩:=ht d (.head _)
  obtain ⟨a,ws,rfl,ha,hda⟩:=aN hd.1
  cases r
  obtain ⟨its1,r1,⟨o,eo,ec,n,ed⟩,_⟩:=I.tuple (SqT.of (K:=X.K) ha)
  match ws,its1,hda,r1,ed with
  | w0 :: ws,_ :: its1,hda,.cons q0 q,ed =>
   refine ⟨_ :: fs,PySem.W.KatTups.cons (kp _ _ eo) ec ed (by simp; rfl) k,by simp [l],fun v hv=>?_⟩
   rcases List.mem_cons.mp hv with rfl | hv
   ·exact ⟨w0,e,r0,hda.1,q0,.head _⟩
   ·obtain ⟨x,d,r,z1,z2,z3⟩:=m v hv
    exact ⟨x,d,r,z1,z2,.tail _ z3⟩
  | [],_,hda,_,_=>exact hda.elim
theorem nH {E:Value→Shared→Prop} (I:Inv X pins σ H s) {a:Addr} {c:String} {o:Obj} {n:Nat} {vs:List V} {ds:List D} {its:List Value} {Q:VK} (κ:SortKind) (ho:s.heap.get? a=some o) (hc:o.cls=.type c) (hcc:c = "list"∨c = "tuple") (hd:o.data=.seq its.toArray n)
  (hD:bI H vs ds) (r:Vals vs its) (h64:ds.length < 64)
  (hk:2≤its.length→∀ h',SO.Keeps s.heap h'→∀ (E:Value→Shared→Prop) (Q:SortKind→Shared→Prop),Q κ { s with heap:=h' }→wpAny (model X.prog X.w) X.A.in1.in1 (keyKind' its.toArray) Q E { s with heap:=h' })
  (hcm:∀ h',SO.Keeps s.heap h'→SO.Cmp (O:=JR) (fun i=>ds.getD i .non) its.length (PySem.W.kas_ask X.prog X.w X.A.in1.in1 κ its) { s with heap:=h' })
  (q:∀ (l:Addr) (us:List V) (ds':List D),H l=none→ds'.Perm ds→UpD ds'→bI H us ds'→Q (.ref l) (upd H l (.lst us))):wpAny (model X.prog X.w) X.A (call (.builtin "sorted") [.ref a]) (EP X pins σ Q) E s:=by
 have l1:=hD.len
 have l2:=r.length
 have kg:SO.Keeps s.heap ((s.heap.push (seqObj "list" #[] 0)).update s.heap.objs.size (Obj.mapSeq (· ++ its.toArray))):=fun b u e=>by
  rw [Heap.get?_update_ne _ _ _ _ (Nat.ne_of_lt (Heap.lt_size e))]
  exact Heap.get?_push_of_some _ e
 refine SO.xU (O:=JR) (vs:=its) (fun i=>ds.getD i .non) κ (by omega) kg (fun Q q=>SO.sH ho hc hcc hd q (by rw [sizeLine_eq]; omega)) hk hcm fun g' p kp hp hs hob=>?_
 obtain ⟨m,hob⟩:=hob
 have hlt:∀ i∈p.toList,i < its.length:=fun i hi=>List.mem_range.mp (hp.mem_iff.mp hi)
 have hsz:s.heap.objs.size≤((s.heap.push (seqObj "list" #[] 0)).update s.heap.objs.size (Obj.mapSeq (· ++ its.toArray))).objs.size:=by
  rw [Heap.size_update,size_push']
  exact Nat.le_succ _
 have hps:p.toList.length=its.length:=by simpa using hp.length_eq
 have hU:=oZ r p.toList fun i hi=>by rw [l2]; exact hlt i hi
 refine ⟨.ref _,_,I.laid (t':=s.toks) (o:=.lst (p.toList.map fun i=>vs.getD i .non)) kp hsz ⟨?_,_,m,hU,hob⟩,rfl,q _ _ (p.toList.map fun i=>ds.getD i .non) (I.hok.fresh hsz) ?_ ?_ (oV hD _ fun i hi=>by have:=hlt i hi; omega)⟩
 ·rw [List.length_map,sizeLine_eq]
  omega
 ·have e:(List.range its.length).map (fun i=>ds.getD i .non)=ds:=by
   apply List.ext_getElem
   ·simp; omega
   ·intro i h1 h2
    simp [List.getD_eq_getElem?_getD,h2]
  have:=hp.map fun i=>ds.getD i D.non
  rw [e] at this
  exact this
 ·unfold UpD
  rw [List.pairwise_iff_getElem]
  intro i j hi hj hij
  have h:=hs i j (Nat.le_of_lt hij) (by simpa [hps] using hj)
  have e:∀ k (hk:k < p.toList.length),SO.KN (O:=JR) (fun i=>ds.getD i .non) p k=(p.toList.map fun i=>ds.getD i D.non)[k]'(by rw [List.length_map]; exact hk):=by
   intro k hk
   have hk':k < p.size:=by simpa using hk
   unfold SO.KN
   rw [List.getElem_map]
   congr 1
   simp [Array.getD,hk']
  rw [e i (by simpa using hi),e j (by simpa using hj)] at h
  exact h
theorem bZ (hu:X.A.units+64 < cLine):fQ X (.builtin "sorted") (Li X.K):=by
 intro pins s σ H xs us Q I r h
 obtain ⟨a,vs,ds,rfl,hp,hD,hom,h64,hsh,q⟩:=h
 obtain ⟨u,rfl,rx⟩:=vals1 r
 cases rx
 obtain ⟨its,rv,c,o,n,hcc,ho,hc,hd⟩:∃ its:List Value,Vals vs its∧∃ (c:String) (o:Obj) (n:Nat),(c = "list"∨c = "tuple")∧s.heap.get? a=some o∧o.cls=.type c∧o.data=.seq its.toArray n:=by
  rcases hp with hp | hp
  ·obtain ⟨its,rv,pl,_⟩:=I.list hp
   obtain ⟨o,ho,hc,n,hd⟩:=pl.isList
   exact ⟨its,rv, "list",o,n,.inl rfl,ho,hc,hd⟩
  ·obtain ⟨its,rv,⟨o,ho,hc,n,hd⟩,_⟩:=I.tuple hp
   exact ⟨its,rv, "tuple",o,n,.inr rfl,ho,hc,hd⟩
 have l1:=hD.len
 have l2:=rv.length
 have one:(∀ d∈ds,∀ xs,d≠.tup xs)→∀ T,(T != Value.type "tuple")=true→(T == T)=true→(∀ d∈ds,tyD d=T)→wpAny (model X.prog X.w) X.A (call (.builtin "sorted") [.ref a]) (EP X pins σ Q) X.xe s:=by
  intro nt T hT1 hT2 hT
  refine nH I oneType' ho hc hcc hd hD rv h64 (fun h2 h' kp E Q q=>?_) (fun h' kp i j C hi hj q=>?_) q
  ·refine PySem.W.kas_kind h2 (T:=T) (fun v hv=>?_) hT1 hT2 q
   obtain ⟨i,hi,rfl⟩:=List.mem_iff_getElem.mp hv
   obtain ⟨x,v,e1,e2,e3,e4,e5,e6⟩:=at3 (i:=i) hD rv (by omega)
   rw [List.getElem?_eq_getElem hi] at e2
   cases e2
   rw [← hT _ e6]
   exact jY I kp (hom.1 _ e6 _ e6) e4 e5
  ·obtain ⟨x,v,e1,e2,e3,e4,e5,e6⟩:=at3 (i:=i) hD rv (by omega)
   obtain ⟨y,u,f1,f2,f3,f4,f5,f6⟩:=at3 (i:=j) hD rv (by omega)
   unfold PySem.W.kas_ask
   rw [e3,f3,keyLt'_oneType]
   exact j8 (hom.1 _ e6 _ f6) e4 f4 e5 f5 (nt _ e6) _ _ q
 rcases hom.2 with hi | hi | hi
 ·exact one (fun d hd xs e=>by obtain ⟨i,z⟩:=hi d hd; rw [z] at e; cases e) (.type "int") (by decide) (by rfl) (fun d hd=>by obtain ⟨i,z⟩:=hi d hd; rw [z]; rfl)
 ·exact one (fun d hd xs e=>by obtain ⟨i,z⟩:=hi d hd; rw [z] at e; cases e) (.type "str") (by decide) (by rfl) (fun d hd=>by obtain ⟨i,z⟩:=hi d hd; rw [z]; rfl)
 ·obtain ⟨T,hT2,hT⟩:∃ T:Value,(T == T)=true∧∀ d r,D.tup (d :: r)∈ds→tyD d=T∧Sim d d:=by
   cases hds:ds with
   | nil=>exact ⟨.type "int",by rfl,fun d r z=>by cases z⟩
   | cons d0 ds0 =>
    obtain ⟨e0,r0,rfl⟩:=hi d0 (by rw [hds]; exact .head _)
    refine ⟨tyD e0,uW e0,fun d r z=>?_⟩
    have s1:=hom.1 _ (show D.tup (d :: r)∈ds by rw [hds]; exact z) (.tup (e0 :: r0)) (by rw [hds]; exact .head _)
    have s2:=hom.1 _ (show D.tup (d :: r)∈ds by rw [hds]; exact z) (.tup (d :: r)) (by rw [hds]; exact z)
    replace s1:=jj (jL s1)
    replace s2:=jj (jL s2)
    exact ⟨Ao s1.1,s2.1⟩
  refine nH I (tuples' (T != Value.type "tuple")) ho hc hcc hd hD rv h64 (fun h2 h' kp E Q q=>?_) (fun h' kp i j C hi' hj q=>?_) q
  ·obtain ⟨fs,k,l,m⟩:=kat_tups I kp hD rv hi
   refine PySem.W.kat_kind k (by omega) (T:=T) (fun v hv=>?_) hT2 q
   obtain ⟨x,d,r,z1,z2,z3⟩:=m v hv
   obtain ⟨t1,t2⟩:=hT d r z3
   rw [← t1]
   exact jY I kp t2 z1 z2
  ·obtain ⟨x,v,e1,e2,e3,e4,e5,e6⟩:=at3 (i:=i) hD rv (by omega)
   obtain ⟨y,u,f1,f2,f3,f4,f5,f6⟩:=at3 (i:=j) hD rv (by omega)
   unfold PySem.W.kas_ask
   rw [e3,f3]
   have hq:C (dlt (ds.getD i .non) (ds.getD j .non)) { s with heap:=h' }:=q
   obtain ⟨d1,r1,E1⟩:=hi _ e6
   obtain ⟨d2,r2,E2⟩:=hi _ f6
   have sh1:=hsh _ e6
   have sh2:=hsh _ f6
   have sm:=hom.1 _ e6 _ f6
   rw [E1] at e4 e6 hq sh1 sm
   rw [E2] at f4 f6 hq sh2 sm
   obtain ⟨a1,w1,rfl,ha1,hda1⟩:=aN e4
   obtain ⟨a2,w2,rfl,ha2,hda2⟩:=aN f4
   cases e5
   cases f5
   obtain ⟨its1,v1,⟨o1,eo1,ec1,n1,ed1⟩,_⟩:=I.tuple (SqT.of (K:=X.K) ha1)
   obtain ⟨its2,v2,⟨o2,eo2,ec2,n2,ed2⟩,_⟩:=I.tuple (SqT.of (K:=X.K) ha2)
   have k1:=hda1.len
   have k2:=hda2.len
   have k3:=v1.length
   have k4:=v2.length
   replace sm:=jL sm
   have cm:=Py I (s':={ s with heap:=h' }) kp 49
   have each:∀ (k:Nat) (p q:Value),(its1.zip its2)[k]?=some (p,q)→∃ (x y:V),Den H x ((d1 :: r1).getD k .non)∧Den H y ((d2 :: r2).getD k .non)∧RelV x p∧RelV y q∧Sim ((d1 :: r1).getD k .non) ((d2 :: r2).getD k .non)∧eO 49 ((d1 :: r1).getD k .non)∧eO 49 ((d2 :: r2).getD k .non):=by
    intro k p q hz
    rw [List.getElem?_zip_eq_some] at hz
    have b1:k < its1.length:=(List.getElem?_eq_some_iff.mp hz.1).1
    have b2:k < its2.length:=(List.getElem?_eq_some_iff.mp hz.2).1
    obtain ⟨x1,p1,_,g1,_,g2,g3,g4⟩:=at3 (i:=k) hda1 v1 (by omega)
    obtain ⟨x2,p2,_,g1',_,g2',g3',g4'⟩:=at3 (i:=k) hda2 v2 (by omega)
    rw [hz.1] at g1
    rw [hz.2] at g1'
    cases g1
    cases g1'
    refine ⟨x1,x2,g2,g2',g3,g3',sm.at_ (i:=k) ?_ ?_,(sh1.2 _ rfl).2 _ g4,(sh2.2 _ rfl).2 _ g4'⟩
    ·rw [List.getD_eq_getElem?_getD,List.getElem?_eq_getElem (by omega)]; rfl
    ·rw [List.getD_eq_getElem?_getD,List.getElem?_eq_getElem (by omega)]; rfl
   refine PySem.W.kat_lt (kp _ _ eo1) ed1 (kp _ _ eo2) ed2 (SO.Ar (e:=fun k=>eqD ((d1 :: r1).getD k .non) ((d2 :: r2).getD k .non)) (f:=fun k=>dlt ((d1 :: r1).getD k .non) ((d2 :: r2).getD k .non)) _ 0 (fun k p q z=>?_) (fun k p q z _ Q E hq=>?_) ?_)
   ·obtain ⟨x,y,h1,h2,h3,h4,h5,h6,h7⟩:=each k p q z
    rw [Nat.zero_add]
    exact (cm _ _ _ _ _ _ _ h6 h7 h5 h1 h2 h3 h4 (by simp only [Around.in1]; omega)).1
   ·obtain ⟨x,y,h1,h2,h3,h4,h5,h6,h7⟩:=each k p q z
    rw [Nat.zero_add] at hq ⊢
    have lt:=(cm _ _ X.A.in1.in1 _ _ _ _ h6 h7 h5 h1 h2 h3 h4 (by simp only [Around.in1]; omega)).2
    cases hb:(T != Value.type "tuple") && k == 0 with
    | false=>exact qF lt Q E hq
    | true =>
     rw [Bool.and_eq_true,beq_iff_eq] at hb
     obtain ⟨hb,rfl⟩:=hb
     have t1:=hT d1 r1 e6
     exact j8 h5 h1 h2 h3 h4 (show ∀ ds,d1≠.tup ds from yD t1.2 (by rw [t1.1]; exact hb)) Q E hq
   ·have hl:=j6 (d1 :: r1) (d2 :: r2)
    have e:List.range' 0 (its1.toArray.toList.zip its2.toArray.toList).length=List.range (min (d1 :: r1).length (d2 :: r2).length):=by
     rw [List.range_eq_range']
     congr 1
     simp only [List.length_zip]
     omega
    have ef:decide (its1.toArray.size < its2.toArray.size)=decide ((d1 :: r1).length < (d2 :: r2).length):=by
     rw [show its1.toArray.size=(d1 :: r1).length by simp at k1 k3 ⊢; omega,show its2.toArray.size=(d2 :: r2).length by simp at k2 k4 ⊢; omega]
    rw [e,ef,hl]
    rw [yM] at hq
    exact hq
end
end L2
namespace PySem.SeqAt
open AutoSeq1 (wpAny_loadPart')
open MeetsSeq MeetsSeq2 MeetsSeq3 SeqRoads2
end PySem.SeqAt
namespace L2
open PySem PySem.Spec PyProof.Rows
end L2
namespace L2
open PySem PySem.Spec PyProof.Rows
theorem nJ (t:List Nat):∀ (k:Nat) (acc:List Nat),List.foldl (fun x1 x2=>x1++x2) acc.toArray (List.replicate k t.toArray)=(acc++(List.replicate k t).flatten).toArray
 | 0,acc=>by simp
 | k+1,acc=>by
  have e:acc.toArray++t.toArray=(acc++t).toArray:=by simp
  have e2:(acc++t)++(List.replicate k t).flatten=acc++(List.replicate (k+1) t).flatten:=by
   rw [List.replicate_succ,List.flatten_cons,List.append_assoc]
  rw [← e2,← nJ t k (acc++t),← e,List.replicate_succ,List.foldl_cons]
theorem Ju (n:Nat):(List.replicate n ([]:List Nat)).flatten=[]:=by
 induction n with
 | zero=>rfl
 | succ n ih=>rw [List.replicate_succ,List.flatten_cons,ih]; rfl
theorem HD (t:List Nat) (n:Nat):Txt.mul ⟨t.toArray⟩ (n:Int)=⟨(List.replicate n t).flatten.toArray⟩:=by
 unfold Txt.mul
 by_cases h1:(n:Int) < 1
 ·rw [if_pos h1]
  have:n=0:=by omega
  subst this
  rfl
 ·rw [if_neg h1]
  by_cases h2:(((n:Int) == 1 || (⟨t.toArray⟩:Str).length == 0)=true)
  ·rw [if_pos h2]
   rw [Bool.or_eq_true,beq_iff_eq,beq_iff_eq] at h2
   rcases h2 with z | z
   ·have:n=1:=by omega
    subst this
    simp
   ·have z':t=[]:=by
     have:t.toArray.size=0:=z
     simpa using this
    subst z'
    rw [Ju]
  ·rw [if_neg h2]
   have:=nJ t n []
   simp only [List.nil_append] at this
   rw [← this]
   simp
def Oa:R2:=fun x y H Q=>∃ (t:List Nat) (n:Nat),x=.str ⟨t.toArray⟩∧y=.int (n:Nat)∧n≤100000∧t.length * n≤100000∧Q (.str ⟨(List.replicate n t).flatten.toArray⟩) H
theorem jr {X:Cx}:OpR X (binaryOp .Mult) Oa:=by
 intro pins s σ H x y v u Q I rx ry h
 obtain ⟨t,n,rfl,rfl,hn,hl,q⟩:=h
 obtain ⟨t',rfl⟩:=rx
 obtain ⟨t'',rfl⟩:=ry
 have hlen:(⟨t.toArray⟩:Str).length=t.length:=by show t.toArray.size=_; simp
 refine SB.mul ⟨?_,fun h1 _=>?_,fun h1 _=>?_⟩ fun t3 k=>?_
 ·simp only [Bool.or_eq_false_iff,decide_eq_false_iff_not]
  omega
 ·rw [hlen]
  intro z
  have h0:0 < n:=by omega
  have z2:((2:Int) ^ 63 - 1) / (n:Int) < (t.length:Int):=z
  rw [Int.ediv_lt_iff_lt_mul (by omega)] at z2
  have e:((t.length:Int) * (n:Int))=((t.length * n:Nat):Int):=by push_cast; rfl
  rw [e] at z2
  omega
 ·rw [hlen,Int.toNat_natCast]
  unfold Builtin.Str.tooLong
  exact decide_eq_false (by have:=bJ; omega)
 ·rw [HD]
  exact ⟨.str _,H,I.tok _,⟨_,rfl⟩,q⟩
end L2
namespace L2
open PySem
def ltr (t i:Nat):Nat:=97+(t+i) % 26
def nm0 (t k:Nat):List Nat:=ltr t (k % 26) :: List.replicate (k % 7) (ltr t (k / 26))
def nm1 (t k:Nat):List Nat:=List.replicate (1+k % 8) (ltr t (k / 8))
def nm2 (t a k:Nat):List Nat:=List.replicate a (ltr t 25)++ltr t (k % 20) :: ltr t (k / 20) :: List.replicate (6 - a) (ltr t 25)
theorem pB {t i j:Nat} (hi:i < 26) (hj:j < 26) (h:ltr t i=ltr t j):i=j:=by
 unfold ltr at h
 omega
theorem JC {t i j:Nat} (hi:i < 70) (hj:j < 70) (h:nm0 t i=nm0 t j):i=j:=by
 have hl:=congrArg List.length h
 unfold nm0 at h hl
 rw [List.length_cons,List.length_cons,List.length_replicate,List.length_replicate] at hl
 have:=pB (Nat.mod_lt _ (by decide)) (Nat.mod_lt _ (by decide)) (List.cons.inj h).1
 omega
theorem G8 {t i j:Nat} (hi:i < 70) (hj:j < 70) (h:nm1 t i=nm1 t j):i=j:=by
 have hl:=congrArg List.length h
 have h0:=congrArg (fun x=>x[0]?) h
 unfold nm1 at h0 hl
 rw [List.length_replicate,List.length_replicate] at hl
 simp only [List.getElem?_replicate] at h0
 rw [if_pos (by omega),if_pos (by omega)] at h0
 have:=pB (by omega) (by omega) (Option.some.inj h0)
 omega
theorem Jj {t a i j:Nat} (hi:i < 70) (hj:j < 70) (h:nm2 t a i=nm2 t a j):i=j:=by
 unfold nm2 at h
 have h':=List.append_cancel_left h
 have h1:=(List.cons.inj h').1
 have h2:=(List.cons.inj (List.cons.inj h').2).1
 have:=pB (by omega) (by omega) h1
 have:=pB (by omega) (by omega) h2
 omega
theorem lN {f:Nat→List Nat} {n:Nat} (h:∀ i j,i < n→j < n→f i=f j→i=j):((List.range n).map f).Nodup:=by
 rw [List.nodup_iff_pairwise_ne,List.pairwise_map]
 refine (List.pairwise_lt_range (n:=n)).imp_of_mem fun {a b} ha hb hab e=>?_
 have:=h a b (List.mem_range.mp ha) (List.mem_range.mp hb) e
 omega
theorem tK {x:List Nat} (h1:1≤x.length) (h2:x.length≤8) (h:∀ c∈x,97≤c∧c≤122):isNm ⟨x.toArray⟩=true:=by
 unfold isNm
 have hl:(⟨x.toArray⟩:Str).length=x.length:=by show x.toArray.size=_; simp
 rw [hl,decide_eq_true h1,decide_eq_true h2]
 simp only [Bool.true_and,List.all_eq_true]
 intro c hc
 exact decide_eq_true (h c (by simpa using hc))
theorem lV (t i:Nat):97≤ltr t i∧ltr t i≤122:=by
 unfold ltr
 omega
theorem Kc (t k:Nat):isNm ⟨(nm0 t k).toArray⟩=true:=by
 refine tK (by simp [nm0]) (by simp [nm0]; omega) fun c hc=>?_
 rcases List.mem_cons.mp hc with rfl | hc
 ·exact lV _ _
 ·rw [(List.mem_replicate.mp hc).2]
  exact lV _ _
theorem Kr (t k:Nat):isNm ⟨(nm1 t k).toArray⟩=true:=by
 refine tK (by simp [nm1]) (by simp [nm1]; omega) fun c hc=>?_
 rw [(List.mem_replicate.mp hc).2]
 exact lV _ _
theorem Ks {t a:Nat} (k:Nat) (ha:a≤6):isNm ⟨(nm2 t a k).toArray⟩=true:=by
 refine tK (by simp [nm2]; omega) (by simp [nm2]; omega) fun c hc=>?_
 unfold nm2 at hc
 rcases List.mem_append.mp hc with hc | hc
 ·rw [(List.mem_replicate.mp hc).2]
  exact lV _ _
 rcases List.mem_cons.mp hc with rfl | hc
 ·exact lV _ _
 rcases List.mem_cons.mp hc with rfl | hc
 ·exact lV _ _
 rw [(List.mem_replicate.mp hc).2]
 exact lV _ _
structure wu (xs:List (List Nat)):Prop where
 len:xs.length=70
 nd:xs.Nodup
 nm:∀ x∈xs,isNm ⟨x.toArray⟩=true
theorem Ir {f:Nat→List Nat} (h1:∀ i j,i < 70→j < 70→f i=f j→i=j) (h2:∀ k,isNm ⟨(f k).toArray⟩=true):wu ((List.range 70).map f) :=
 ⟨by simp,lN h1,fun x hx=>by obtain ⟨k,_,rfl⟩:=List.mem_map.mp hx; exact h2 k⟩
theorem Qy (t:Nat):wu ((List.range 70).map (nm0 t)):=Ir (fun _ _ hi hj=>JC hi hj) (Kc t)
theorem Qt (t:Nat):wu ((List.range 70).map (nm1 t)):=Ir (fun _ _ hi hj=>G8 hi hj) (Kr t)
theorem row2 {t a:Nat} (ha:a≤6):wu ((List.range 70).map (nm2 t a)):=Ir (fun _ _ hi hj=>Jj hi hj) (fun k=>Ks k ha)
theorem zc {t i:Nat} (ht:t < 26) (hi:i < 26):((List.range 26).map (97 + ·)).drop t++((List.range 26).map (97 + ·)).take t=(List.range 26).map (ltr t):=by
 apply List.ext_getElem
 ·simp; omega
 ·intro n h1 h2
  simp only [List.length_append,List.length_drop,List.length_take,List.length_map,List.length_range] at h1 h2
  rw [List.getElem_append]
  split
  ·simp [ltr]
   simp at *
   omega
  ·simp [ltr]
   simp at *
   omega
end L2
namespace L2
open PySem PySem.Spec PyProof.Rows
theorem GC {sc:Scope} {ns:List (Str × NameKind)} (h:∀ y∈ns,y.2≠.free):∀ y∈ns,y.2=.free→sc.names.lookup y.1=some .cell∨sc.names.lookup y.1=some .free:=fun y hy hf=>absurd hf (h y hy)
theorem Ab {X:Cx} {K:PySem.W.Frag} {tg l:Expr} {tl:TE} (hK:X.K=K) (hl:PE X l tl):PI X tg l (Qh K tl):=by subst hK; exact fO hl
end L2
namespace L2
open PySem PySem.Spec PyProof.Rows
def KTup (K:PySem.W.Frag) (a:Addr) (xs:List V):Prop:=∃ (o:Obj) (its:Array Value) (n:Nat),K.lookup a=some o∧o.cls=.type "tuple"∧o.data=.seq its n∧its.size≤sizeLine∧Vals xs its.toList
theorem KTup.sq {K:PySem.W.Frag} {a:Addr} {xs:List V} {H:Hp} (h:KTup K a xs):SqT K H a xs:=.inr h
theorem stT {K:PySem.W.Frag} {H H':Hp} {a:Addr} {xs:List V} (e:Same H H') (h:SqT K H a xs):SqT K H' a xs:=by
 rcases h with (h | ⟨o,h⟩) | h
 ·exact .inl (.inl (e _ _ h))
 ·exact .inl (.inr ⟨o,e _ _ h⟩)
 ·exact .inr h
def O9 (K:PySem.W.Frag):R2:=fun x y H Q=>∃ (a b:Addr) (xs ys:List V),x=.ref a∧y=.ref b∧SqT K H a xs∧SqT K H b ys∧xs.length+ys.length≤sizeLine∧∀ (q:Addr) (H':Hp),Same H H'→SqT K H' q (xs++ys)→Q (.ref q) H'
theorem Dc {X:Cx}:OpR X (binaryOp .Add) (O9 X.K):=by
 intro pins s σ H x y v u Q I rx ry h
 obtain ⟨a,b,xs,ys,rfl,rfl,ha,hb,hz,q⟩:=h
 cases xs with
 | cons x1 xs =>
  refine xX pins s σ H (.ref a) (.ref b) v u Q I rx ry ⟨a,b,_,_,rfl,rfl,ha,hb,by simp,hz,fun z=>?_,fun z p hp=>q p _ (aq hp _) (SqT.of ak)⟩
  refine q a H (Same.refl H) ?_
  rw [z,List.append_nil]
  exact ha
 | nil =>
  cases rx
  cases ry
  obtain ⟨its,r1,p1,_⟩:=I.tuple ha
  obtain ⟨its2,r2,p2,_⟩:=I.tuple hb
  cases r1
  obtain ⟨⟨cls,dd,data,sl⟩,ho,hc,n,hd⟩:=id p1
  obtain ⟨⟨cls2,dd2,data2,sl2⟩,ho2,hc2,n2,hd2⟩:=id p2
  simp only at hc hd hc2 hd2
  subst hc hd hc2 hd2
  refine concat_meets ⟨_,ho,rfl⟩ ⟨_,ho2,rfl⟩ noFill_tuple_add seq_tuple_add PySem.F.slot_tuple_add PySem.F.entry_tuple_add (PySem.F.args_tuple_add_2 _ _) (tuple_addW0 a b _ its2.toArray n n2 dd dd2 sl sl2 rfl) ⟨ho,ho2,?_⟩
  exact ⟨.ref b,H,I,rfl,q b H (Same.refl H) hb⟩
def Qc (K:PySem.W.Frag) (e:Addr):Prop:=∃ e0 e1 e2 e3:Addr,KTup K e [.ref e0,.ref e1,.ref e2,.ref e3]∧KTup K e0 []∧KTup K e1 []∧KTup K e2 []∧KTup K e3 []
end L2
set_option maxHeartbeats 4000000
namespace L2
open PySem PySem.Spec PyProof.Rows
end L2
namespace MN
open PySem
abbrev kwD (d:Value):List (Str × Value):=[(Str.ofString "default",d)]
section
variable {prog:Program} {w:World} {A:Around} {R:Result→Shared→Prop} {It:Addr} {fp wr:List Addr} {n:Nat} {Pr:Nat→Value→Prop} {Sx:Nat→Heap→Prop}
end
section
variable {prog:Program} {w:World} {A:Around} {E:Value→Shared→Prop} {s:Shared}
end
end MN
namespace L2
open PySem PySem.Spec PyProof.Rows
end L2
namespace L2
open PySem PySem.Spec PyProof.Rows
end L2
namespace L2
open PySem PySem.Spec PyProof.Rows
def Qx (K:PySem.W.Frag):R2:=fun x y H Q=>∃ (p:Addr) (us:List V) (d:D) (es:List D) (n:Nat),y=.ref p∧(SqL K H p us∨SqT K H p us)∧Den H x d∧bI H us es∧(∀ e∈es,∃ r,e=.tup r)∧(∃ r,d=.tup r)∧eO n d∧(∀ e∈es,eO n e∧Sim e d)∧n≤50∧Q (.bl (es.any fun e=>eqD e d)) H
theorem Gu {α β:Type} {f:α→Bool} {g:β→Bool}:∀ {xs:List α} {ys:List β},xs.length=ys.length→(∀ (i:Nat) x y,xs[i]?=some x→ys[i]?=some y→f x=g y)→xs.any f=ys.any g
 | [],[],_,_=>rfl
 | x :: xs,y :: ys,hl,h=>by
  rw [List.any_cons,List.any_cons,h 0 x y rfl rfl,Gu (by simpa using hl) fun i a b h1 h2=>h (i+1) a b (by simpa using h1) (by simpa using h2)]
 | [],_ :: _,hl,_=>by simp at hl
 | _ :: _,[],hl,_=>by simp at hl
open Classical in
theorem LC {X:Cx} (hu:X.A.units+64 < cLine):OpR X (compareOp .In) (Qx X.K):=by
 intro pins s σ H x y v u Q I rx ry h
 obtain ⟨p,us,d,es,n,rfl,hq,hx,hde,htup,⟨r0,rfl⟩,hsd,hse,hn,q⟩:=h
 cases ry
 have cm:=Py I (s':=s) (fun b o z=>z) n
 have key:∀ its:List Value,Vals us its→(∀ w∈its,SeqAt.EqAt X.A.in1 s w v (decide (∃ a e,w=Value.ref a∧Den H (.ref a) e∧eqD e (.tup r0)=true)))∧its.any (fun w=>decide (∃ a e,w=Value.ref a∧Den H (.ref a) e∧eqD e (.tup r0)=true))=es.any fun e=>eqD e (.tup r0):=by
  intro its r
  have at_:∀ (i:Nat) (w:Value),its[i]?=some w→∃ a e,es[i]?=some e∧w=.ref a∧Den H (.ref a) e:=fun i w hw=>by
   have hl:=r.length
   have hi:=(List.getElem?_eq_some_iff.mp hw).1
   obtain ⟨e,he,de⟩:=hde.at_ (List.getElem?_eq_getElem (by omega:i < us.length))
   obtain ⟨r1,rfl⟩:=htup e (List.mem_of_getElem? he)
   obtain ⟨a,vs,ea,ha,hd⟩:=aN de
   obtain ⟨w',hw',rw'⟩:=r.get (List.getElem?_eq_getElem (by omega:i < us.length))
   rw [hw] at hw'
   cases hw'
   rw [ea] at rw' de
   cases rw'
   exact ⟨a,_,he,rfl,de⟩
  have val:∀ {a:Addr} {e:D},Den H (.ref a) e→decide (∃ a' e',Value.ref a=Value.ref a'∧Den H (.ref a') e'∧eqD e' (.tup r0)=true)=eqD e (.tup r0):=fun {a e} de=>by
   rw [Bool.eq_iff_iff,decide_eq_true_eq]
   constructor
   ·rintro ⟨a',e',ea,de',h⟩
    injection ea with ea
    subst ea
    rw [Den.det de de']
    exact h
   ·exact fun h=>⟨a,e,rfl,de,h⟩
  refine ⟨fun w hw=>?_,?_⟩
  ·obtain ⟨i,hi,rfl⟩:=List.getElem_of_mem hw
   obtain ⟨a,e,he,ew,de⟩:=at_ i _ (List.getElem?_eq_getElem hi)
   rw [ew,val de]
   obtain ⟨s1,s2⟩:=hse e (List.mem_of_getElem? he)
   exact (cm e (.tup r0) X.A.in1 (.ref a) x (.ref a) v s1 hsd s2 de hx rfl rx (by first | (simp only [Around.in1]; omega) | omega)).1
  ·refine Gu (by rw [← r.length,hde.len]) fun i w e hw he=>?_
   obtain ⟨a,e',he',ew,de⟩:=at_ i w hw
   rw [he] at he'
   cases he'
   rw [ew]
   exact val de
 rcases hq with hq | hq
 ·obtain ⟨its,r,pl,hz⟩:=I.list hq
  obtain ⟨k1,k2⟩:=key its r
  refine SeqAt.in_listAt (fun w=>decide (∃ a e,w=Value.ref a∧Den H (.ref a) e∧eqD e (.tup r0)=true)) pl.isList (fun w hw=>k1 w (by simpa using hw)) ⟨.bl _,H,I,rfl,?_⟩
  rw [show its.toArray.any (fun w=>decide (∃ a e,w=Value.ref a∧Den H (.ref a) e∧eqD e (.tup r0)=true))=its.any (fun w=>decide (∃ a e,w=Value.ref a∧Den H (.ref a) e∧eqD e (.tup r0)=true)) by simp,k2]
  exact q
 ·obtain ⟨its,r,pl,hz⟩:=I.tuple hq
  obtain ⟨k1,k2⟩:=key its r
  refine SeqAt.in_tupleAt (fun w=>decide (∃ a e,w=Value.ref a∧Den H (.ref a) e∧eqD e (.tup r0)=true)) pl (fun w hw=>k1 w (by simpa using hw)) ⟨.bl _,H,I,rfl,?_⟩
  rw [show its.toArray.any (fun w=>decide (∃ a e,w=Value.ref a∧Den H (.ref a) e∧eqD e (.tup r0)=true))=its.any (fun w=>decide (∃ a e,w=Value.ref a∧Den H (.ref a) e∧eqD e (.tup r0)=true)) by simp,k2]
  exact q
end L2
namespace L2
open PySem PySem.Spec PyProof.Rows
def K0:PySem.W.Frag:=[]
section
variable {X:Cx}
def mc (t:TE):TE:=fun σ H Q=>∃ Q0,t σ H Q0∧∀ v H',Q0 v H'→Q v H'
def mcA (t:TA):TA:=fun σ H Q=>∃ Q0,t σ H Q0∧∀ v H',Q0 v H'→Q v H'
end
theorem hid {T:Prop} (k:∀ G:Prop,(T→G)→G):T:=k T id
end L2
namespace L2
open PySem PySem.Spec PyProof.Rows
structure Up (D E:Ends):Prop where
 n:∀ σ H,D.nx σ H→E.nx σ H
 r:∀ v H,D.rt v H→E.rt v H
 b:∀ σ H,D.bk σ H→E.bk σ H
 c:∀ σ H,D.ct σ H→E.ct σ H
theorem JT {g:TG} {tb:TS} {D:Ends} {v:V} {σ:St} {H:Hp} (k:∀ E:Ends,Up D E→g v σ H fun σ2 H2=>tb E σ2 H2):g v σ H fun σ2 H2=>tb D σ2 H2:=k D ⟨fun _ _ h=>h,fun _ _ h=>h,fun _ _ h=>h,fun _ _ h=>h⟩
theorem gJ {J:It} {g:TG} {tc:TT} {te:TE} {R:Hp→Prop} {l:Addr} {σ0:St} {H0:Hp} (n:Nat) (Pv:Nat→St→Hp→Prop) (h0:Pv 0 σ0 H0) (hstop:∀ σ H,Pv n σ H→J.stop n H∧R H)
  (hgo:∀ i σ H,i < n→Pv i σ H→J.go i H∧∀ N:St→Hp→Prop,(∀ σ' H',Pv (i+1) σ' H'→N σ' H')→∀ x H',J.yld i H x H'→g x σ H' fun σ2 H2=>tc σ2 H2 fun b H3=>if b=true then te σ2 H3 fun v H4=>∃ ys,H4 l=some (.lst ys)∧ys.length < sizeLine∧N σ2 (upd H4 l (.lst (ys++[v]))) else N σ2 H3) :
  ∃ W:Nat→Nat→St→Hp→Prop,(∃ m,W 0 m σ0 H0)∧∀ i m σ H,W i m σ H →
   (J.stop i H∧R H)∨(J.go i H∧∃ N:St→Hp→Prop,(∀ σ' H',N σ' H'→∃ m',m' < m∧W (i+1) m' σ' H') ∧
    ∀ x H',J.yld i H x H'→g x σ H' fun σ2 H2=>tc σ2 H2 fun b H3=>if b=true then te σ2 H3 fun v H4=>∃ ys,H4 l=some (.lst ys)∧ys.length < sizeLine∧N σ2 (upd H4 l (.lst (ys++[v]))) else N σ2 H3) :=
 fu n Pv h0 hstop fun i σ H hi hp=>⟨(hgo i σ H hi hp).1,(hgo i σ H hi hp).2 _ fun _ _ h=>h⟩
def FnI (K:PySem.W.Frag) (x:Str) (st:Stmt):Prop:=∃ (f:Addr) (fd:FuncData),PySem.W.nsIn K mainGlobals x=some (some (.ref f))∧Fun K x x st f fd
theorem fni {K:PySem.W.Frag} {x:Str} {st:Stmt} {f:Addr} {oc:Value} {od an:Option Addr} {osl:Array (Option Value)} {kV doc pm cdv ct:Value} (a:PySem.W.nsIn K mainGlobals x=some (some (.ref f))) (l:K.lookup f=some ⟨oc,od,.func (PySem.W.fnOf x x (gn st) (dN st) (aC st) .none kV doc pm an cdv ct),osl⟩)
  (c:PySem.W.codeIn K cdv x=true) (k:PySem.W.keepIn K (.ref f)=true):FnI K x st:=⟨f,_,a,Gn l c k⟩
theorem FnI.has {K:PySem.W.Frag} {mg:Str→Option Value} {h:Heap} {x:Str} {st:Stmt} {ps:List Str} (X:K.In h) (G:h.Ns mainGlobals mg) (i:FnI K x st)
  (hb:∀ (kV doc pm:Value) (an:Option Addr) (cdv ct:Value) (us:List Value),us.length=ps.length→bindArgs (PySem.W.fnOf x x (gn st) (dN st) (aC st) .none kV doc pm an cdv ct) ⟨us,[]⟩=pure (ps.zip us)):Has K mg x st ps:=by
 obtain ⟨f,fd,a,F⟩:=i
 exact ⟨f,fd,F,F.binds hb,PySem.W.mg_of X G a⟩
theorem len0 {α:Type _} {P:List α→Prop} (us:List α) (hl:us.length=0) (h:P []):P us:=by
 cases us with
 | nil=>exact h
 | cons a t=>exact (Nat.succ_ne_zero _ hl).elim
theorem GQ {α:Type _} {P:List α→Prop} (us:List α) (n:Nat) (hl:us.length=n+1) (h:∀ a t,t.length=n→P (a :: t)):P us:=by
 cases us with
 | nil=>exact (Nat.succ_ne_zero n hl.symm).elim
 | cons a t=>exact h a t (Nat.succ.inj hl)
@[elab_as_elim] theorem len1 {α:Type _} {P:List α→Prop} (us:List α) (hl:us.length=1) (h:∀ a0,P [a0]):P us:=GQ (P:=P) us 0 hl fun a t ht=>len0 (P:=fun t=>P (a :: t)) t ht (h a)
@[elab_as_elim] theorem len2 {α:Type _} {P:List α→Prop} (us:List α) (hl:us.length=2) (h:∀ a0 a1,P [a0,a1]):P us:=GQ (P:=P) us 1 hl fun a t ht=>len1 (P:=fun t=>P (a :: t)) t ht (h a)
@[elab_as_elim] theorem JQ {α:Type _} {P:List α→Prop} (us:List α) (hl:us.length=3) (h:∀ a0 a1 a2,P [a0,a1,a2]):P us:=GQ (P:=P) us 2 hl fun a t ht=>len2 (P:=fun t=>P (a :: t)) t ht (h a)
@[elab_as_elim] theorem OJ {α:Type _} {P:List α→Prop} (us:List α) (hl:us.length=4) (h:∀ a0 a1 a2 a3,P [a0,a1,a2,a3]):P us:=GQ (P:=P) us 3 hl fun a t ht=>JQ (P:=fun t=>P (a :: t)) t ht (h a)
@[elab_as_elim] theorem Q9 {α:Type _} {P:List α→Prop} (us:List α) (hl:us.length=5) (h:∀ a0 a1 a2 a3 a4,P [a0,a1,a2,a3,a4]):P us:=GQ (P:=P) us 4 hl fun a t ht=>OJ (P:=fun t=>P (a :: t)) t ht (h a)
@[elab_as_elim] theorem Qo {α:Type _} {P:List α→Prop} (us:List α) (hl:us.length=6) (h:∀ a0 a1 a2 a3 a4 a5,P [a0,a1,a2,a3,a4,a5]):P us:=GQ (P:=P) us 5 hl fun a t ht=>Q9 (P:=fun t=>P (a :: t)) t ht (h a)
@[elab_as_elim] theorem QZ {α:Type _} {P:List α→Prop} (us:List α) (hl:us.length=7) (h:∀ a0 a1 a2 a3 a4 a5 a6,P [a0,a1,a2,a3,a4,a5,a6]):P us:=GQ (P:=P) us 6 hl fun a t ht=>Qo (P:=fun t=>P (a :: t)) t ht (h a)
@[elab_as_elim] theorem Rq {α:Type _} {P:List α→Prop} (us:List α) (hl:us.length=8) (h:∀ a0 a1 a2 a3 a4 a5 a6 a7,P [a0,a1,a2,a3,a4,a5,a6,a7]):P us:=GQ (P:=P) us 7 hl fun a t ht=>QZ (P:=fun t=>P (a :: t)) t ht (h a)
end L2
set_option maxHeartbeats 1000000
namespace SO
open PySem PySem.W PyProof.Rows
section
variable {O:KeyOrd} {key:Nat→O.α} {N:Nat} {prog:Program} {w:World} {A:Around} {E:Value→Shared→Prop} {s:Shared} {κ:SortKind} {it:Array Keyed} {st:SortSt}
end
end SO
namespace SO
open PySem PySem.W PyProof.Rows
abbrev arr (it:Array Keyed) (l:List Nat):Array Keyed:=l.toArray.map (kas_item it)
section
variable {it:Array Keyed}
end
section
variable {O:KeyOrd} {key:Nat→O.α} {N:Nat} {prog:Program} {w:World} {A:Around} {E:Value→Shared→Prop} {s:Shared} {κ:SortKind} {it:Array Keyed} {st:SortSt}
abbrev Up (key:Nat→O.α) (l:List Nat):Prop:=l.Pairwise fun x y=>O.kle (key x) (key y)
structure Mg (key:Nat→O.α) (As Bs o ra rb:List Nat):Prop where
 perm:(o++(ra++rb)).Perm (As++Bs)
 so:Up key o
 le:∀ x∈o,∀ y∈ra++rb,O.kle (key x) (key y)
 sa:Up key ra
 sb:Up key rb
variable {As Bs o ra rb xs ra' rb':List Nat}
def Ru (st st':SortSt):Prop:=kindOf st'=kindOf st∧arrOf st'=arrOf st∧pendingOf st'=pendingOf st∧failedOf st'=failedOf st
end
end SO
set_option maxHeartbeats 2000000
namespace SO
open PySem PySem.W PyProof.Rows
section
variable {O:KeyOrd} {key:Nat→O.α} {N:Nat} {prog:Program} {w:World} {A:Around} {E:Value→Shared→Prop} {s:Shared} {κ:SortKind} {it:Array Keyed} {st:SortSt} {As Bs o:List Nat} {ia ib:Nat}
end
end SO
namespace SO
open PySem PySem.W PyProof.Rows
section
variable {O:KeyOrd} {key:Nat→O.α} {N:Nat} {prog:Program} {w:World} {A:Around} {E:Value→Shared→Prop} {s:Shared} {κ:SortKind} {it:Array Keyed} {st:SortSt} {As Bs o ra rb xs ra' rb':List Nat} {na nb:Nat}
structure Mh (key:Nat→O.α) (As Bs o ra rb:List Nat):Prop where
 perm:(ra++rb++o).Perm (As++Bs)
 so:Up key o
 le:∀ x∈ra++rb,∀ y∈o,O.kle (key x) (key y)
 sa:Up key ra
 sb:Up key rb
end
end SO
namespace SO
open PySem PySem.W PyProof.Rows
section
variable {O:KeyOrd} {key:Nat→O.α} {N:Nat} {prog:Program} {w:World} {A:Around} {E:Value→Shared→Prop} {s:Shared} {κ:SortKind} {it:Array Keyed} {pend:Array (Nat × Nat × Nat)} {st:SortSt} {q:Array Nat}
structure Ss (κ:SortKind) (it:Array Keyed) (pend:Array (Nat × Nat × Nat)) (q:Array Nat) (st:SortSt):Prop where
 kind:kindOf st=κ
 arr:arrOf st=q.map (kas_item it)
 pend:pendingOf st=pend
 failed:failedOf st=none
def Hf (key:Nat→O.α) (q:Array Nat) (lo n:Nat):Prop:=∀ i j,i≤j→j < n→O.kle (KN key q (lo+i)) (KN key q (lo+j))
def Qv (key:Nat→O.α) (q:Array Nat) (lo n:Nat):Prop:=∀ i j,i≤j→j < n→O.kle (KN key q (lo+j)) (KN key q (lo+i))
def Fix (key:Nat→O.α) (lo hi:Nat) (q q':Array Nat):Prop:=∀ i,(i < lo∨hi≤i)→KN key q' i=KN key q i
end
end SO
namespace SO
open PySem PySem.W PyProof.Rows
section
variable {O:KeyOrd} {key:Nat→O.α} {N:Nat} {prog:Program} {w:World} {A:Around} {E:Value→Shared→Prop} {s:Shared} {κ:SortKind} {it:Array Keyed} {pend:Array (Nat × Nat × Nat)} {st:SortSt} {q:Array Nat}
end
section
variable {O:KeyOrd} {key:Nat→O.α} {N:Nat} {q:Array Nat}
end
end SO
namespace SO
open PySem PySem.W PyProof.Rows
section
variable {O:KeyOrd} {key:Nat→O.α} {N:Nat} {prog:Program} {w:World} {A:Around} {E:Value→Shared→Prop} {s:Shared} {κ:SortKind} {it:Array Keyed} {pend:Array (Nat × Nat × Nat)} {st:SortSt} {q:Array Nat}
end
end SO
namespace SO
open PySem PySem.W PyProof.Rows
abbrev pr (t:Nat × Nat × Nat):Nat × Nat:=(t.1,t.2.1)
def Chain:Nat→List (Nat × Nat)→Nat→Prop
 | a,[],b=>a=b
 | a,t :: r,b=>t.1=a∧1≤t.2∧Chain (a+t.2) r b
theorem Chain.le:∀ {a b:Nat} {P:List (Nat × Nat)},Chain a P b→a+P.length≤b∧∀ t∈P,a≤t.1∧t.1+t.2≤b
 | a,b,[],h=>by have h:a=b:=h; subst h; exact ⟨Nat.le_refl _,fun t ht=>by cases ht⟩
 | a,b,t :: P,⟨h1,h2,h3⟩=>by
  obtain ⟨g1,g2⟩:=Chain.le h3
  refine ⟨by rw [List.length_cons]; omega,fun u hu=>?_⟩
  rcases List.mem_cons.mp hu with rfl | hu
  ·omega
  ·have:=g2 u hu
   omega
section
variable {O:KeyOrd} {key:Nat→O.α} {N:Nat} {prog:Program} {w:World} {A:Around} {E:Value→Shared→Prop} {s:Shared} {κ:SortKind} {it:Array Keyed} {pend:Array (Nat × Nat × Nat)} {st:SortSt} {q:Array Nat}
structure Rn (key:Nat→O.α) (N:Nat) (κ:SortKind) (it:Array Keyed) (pend:Array (Nat × Nat × Nat)) (q:Array Nat) (st:SortSt) (lo:Nat):Prop where
 S:Ss κ it pend q st
 hq:InN N q
 ch:Chain 0 (pend.toList.map pr) lo
 up:∀ t∈pend.toList.map pr,Hf key q t.1 t.2
end
end SO
set_option maxHeartbeats 1000000
namespace SO
open PySem PySem.W PyProof.Rows
variable {O:KeyOrd} {key:Nat→O.α} {N:Nat}
section
variable {prog:Program} {w:World} {A:Around} {E:Value→Shared→Prop} {s:Shared}
end
end SO
namespace L2
open PySem PySem.W PyProof.Rows
section
variable {prog:Program} {w:World} {A:Around} {E:Value→Shared→Prop} {s:Shared}
variable {X:Cx} {pins:List (Addr × Obj)} {σ:St} {H:Hp} {s:Shared}
end
end L2
namespace L2
open PySem PySem.W PyProof.Rows
section
variable {X:Cx} {pins:List (Addr × Obj)} {σ:St} {H:Hp} {s:Shared}
def PL (X:Cx) (s:Shared) (its:List Value) (ds:List D):Prop:=∃ κ:SortKind,
 (2≤its.length→∀ h',SO.Keeps s.heap h'→∀ (E:Value→Shared→Prop) (Q:SortKind→Shared→Prop),Q κ { s with heap:=h' }→wpAny (model X.prog X.w) X.A.in1.in1 (keyKind' its.toArray) Q E { s with heap:=h' }) ∧
 (∀ h',SO.Keeps s.heap h'→SO.Cmp (O:=JR) (fun i=>ds.getD i .non) its.length (PySem.W.kas_ask X.prog X.w X.A.in1.in1 κ its) { s with heap:=h' })
theorem QD (hu:X.A.units+64 < cLine) (I:Inv X pins σ H s) {vs:List V} {ds:List D} {its:List Value} (hD:bI H vs ds) (rv:Vals vs its) (hom:Hom ds) (h64:ds.length≤100000) (hsh:∀ d∈ds,eO 50 d):PL X s its ds:=by
 have l1:=hD.len
 have l2:=rv.length
 have one:(∀ d∈ds,∀ xs,d≠.tup xs)→∀ T,(T != Value.type "tuple")=true→(T == T)=true→(∀ d∈ds,tyD d=T)→PL X s its ds:=by
  intro nt T hT1 hT2 hT
  refine ⟨oneType',fun h2 h' kp E Q q=>?_,fun h' kp i j C hi hj q=>?_⟩
  ·refine PySem.W.kas_kind h2 (T:=T) (fun v hv=>?_) hT1 hT2 q
   obtain ⟨i,hi,rfl⟩:=List.mem_iff_getElem.mp hv
   obtain ⟨x,v,e1,e2,e3,e4,e5,e6⟩:=at3 (i:=i) hD rv (by omega)
   rw [List.getElem?_eq_getElem hi] at e2
   cases e2
   rw [← hT _ e6]
   exact jY I kp (hom.1 _ e6 _ e6) e4 e5
  ·obtain ⟨x,v,e1,e2,e3,e4,e5,e6⟩:=at3 (i:=i) hD rv (by omega)
   obtain ⟨y,u,f1,f2,f3,f4,f5,f6⟩:=at3 (i:=j) hD rv (by omega)
   unfold PySem.W.kas_ask
   rw [e3,f3,keyLt'_oneType]
   exact j8 (hom.1 _ e6 _ f6) e4 f4 e5 f5 (nt _ e6) _ _ q
 rcases hom.2 with hi | hi | hi
 ·exact one (fun d hd xs e=>by obtain ⟨i,z⟩:=hi d hd; rw [z] at e; cases e) (.type "int") (by decide) (by rfl) (fun d hd=>by obtain ⟨i,z⟩:=hi d hd; rw [z]; rfl)
 ·exact one (fun d hd xs e=>by obtain ⟨i,z⟩:=hi d hd; rw [z] at e; cases e) (.type "str") (by decide) (by rfl) (fun d hd=>by obtain ⟨i,z⟩:=hi d hd; rw [z]; rfl)
 ·obtain ⟨T,hT2,hT⟩:∃ T:Value,(T == T)=true∧∀ d r,D.tup (d :: r)∈ds→tyD d=T∧Sim d d:=by
   cases hds:ds with
   | nil=>exact ⟨.type "int",by rfl,fun d r z=>by cases z⟩
   | cons d0 ds0 =>
    obtain ⟨e0,r0,rfl⟩:=hi d0 (by rw [hds]; exact .head _)
    refine ⟨tyD e0,uW e0,fun d r z=>?_⟩
    have s1:=hom.1 _ (show D.tup (d :: r)∈ds by rw [hds]; exact z) (.tup (e0 :: r0)) (by rw [hds]; exact .head _)
    have s2:=hom.1 _ (show D.tup (d :: r)∈ds by rw [hds]; exact z) (.tup (d :: r)) (by rw [hds]; exact z)
    replace s1:=jj (jL s1)
    replace s2:=jj (jL s2)
    exact ⟨Ao s1.1,s2.1⟩
  refine ⟨tuples' (T != Value.type "tuple"),fun h2 h' kp E Q q=>?_,fun h' kp i j C hi' hj q=>?_⟩
  ·obtain ⟨fs,k,l,m⟩:=kat_tups I kp hD rv hi
   refine PySem.W.kat_kind k (by omega) (T:=T) (fun v hv=>?_) hT2 q
   obtain ⟨x,d,r,z1,z2,z3⟩:=m v hv
   obtain ⟨t1,t2⟩:=hT d r z3
   rw [← t1]
   exact jY I kp t2 z1 z2
  ·obtain ⟨x,v,e1,e2,e3,e4,e5,e6⟩:=at3 (i:=i) hD rv (by omega)
   obtain ⟨y,u,f1,f2,f3,f4,f5,f6⟩:=at3 (i:=j) hD rv (by omega)
   unfold PySem.W.kas_ask
   rw [e3,f3]
   have hq:C (dlt (ds.getD i .non) (ds.getD j .non)) { s with heap:=h' }:=q
   obtain ⟨d1,r1,E1⟩:=hi _ e6
   obtain ⟨d2,r2,E2⟩:=hi _ f6
   have sh1:=hsh _ e6
   have sh2:=hsh _ f6
   have sm:=hom.1 _ e6 _ f6
   rw [E1] at e4 e6 hq sh1 sm
   rw [E2] at f4 f6 hq sh2 sm
   obtain ⟨a1,w1,rfl,ha1,hda1⟩:=aN e4
   obtain ⟨a2,w2,rfl,ha2,hda2⟩:=aN f4
   cases e5
   cases f5
   obtain ⟨its1,v1,⟨o1,eo1,ec1,n1,ed1⟩,_⟩:=I.tuple (SqT.of (K:=X.K) ha1)
   obtain ⟨its2,v2,⟨o2,eo2,ec2,n2,ed2⟩,_⟩:=I.tuple (SqT.of (K:=X.K) ha2)
   have k1:=hda1.len
   have k2:=hda2.len
   have k3:=v1.length
   have k4:=v2.length
   replace sm:=jL sm
   have cm:=Py I (s':={ s with heap:=h' }) kp 49
   have each:∀ (k:Nat) (p q:Value),(its1.zip its2)[k]?=some (p,q)→∃ (x y:V),Den H x ((d1 :: r1).getD k .non)∧Den H y ((d2 :: r2).getD k .non)∧RelV x p∧RelV y q∧Sim ((d1 :: r1).getD k .non) ((d2 :: r2).getD k .non)∧eO 49 ((d1 :: r1).getD k .non)∧eO 49 ((d2 :: r2).getD k .non):=by
    intro k p q hz
    rw [List.getElem?_zip_eq_some] at hz
    have b1:k < its1.length:=(List.getElem?_eq_some_iff.mp hz.1).1
    have b2:k < its2.length:=(List.getElem?_eq_some_iff.mp hz.2).1
    obtain ⟨x1,p1,_,g1,_,g2,g3,g4⟩:=at3 (i:=k) hda1 v1 (by omega)
    obtain ⟨x2,p2,_,g1',_,g2',g3',g4'⟩:=at3 (i:=k) hda2 v2 (by omega)
    rw [hz.1] at g1
    rw [hz.2] at g1'
    cases g1
    cases g1'
    refine ⟨x1,x2,g2,g2',g3,g3',sm.at_ (i:=k) ?_ ?_,(sh1.2 _ rfl).2 _ g4,(sh2.2 _ rfl).2 _ g4'⟩
    ·rw [List.getD_eq_getElem?_getD,List.getElem?_eq_getElem (by omega)]; rfl
    ·rw [List.getD_eq_getElem?_getD,List.getElem?_eq_getElem (by omega)]; rfl
   refine PySem.W.kat_lt (kp _ _ eo1) ed1 (kp _ _ eo2) ed2 (SO.Ar (e:=fun k=>eqD ((d1 :: r1).getD k .non) ((d2 :: r2).getD k .non)) (f:=fun k=>dlt ((d1 :: r1).getD k .non) ((d2 :: r2).getD k .non)) _ 0 (fun k p q z=>?_) (fun k p q z _ Q E hq=>?_) ?_)
   ·obtain ⟨x,y,h1,h2,h3,h4,h5,h6,h7⟩:=each k p q z
    rw [Nat.zero_add]
    exact (cm _ _ _ _ _ _ _ h6 h7 h5 h1 h2 h3 h4 (by simp only [Around.in1]; omega)).1
   ·obtain ⟨x,y,h1,h2,h3,h4,h5,h6,h7⟩:=each k p q z
    rw [Nat.zero_add] at hq ⊢
    have lt:=(cm _ _ X.A.in1.in1 _ _ _ _ h6 h7 h5 h1 h2 h3 h4 (by simp only [Around.in1]; omega)).2
    cases hb:(T != Value.type "tuple") && k == 0 with
    | false=>exact qF lt Q E hq
    | true =>
     rw [Bool.and_eq_true,beq_iff_eq] at hb
     obtain ⟨hb,rfl⟩:=hb
     have t1:=hT d1 r1 e6
     exact j8 h5 h1 h2 h3 h4 (show ∀ ds,d1≠.tup ds from yD t1.2 (by rw [t1.1]; exact hb)) Q E hq
   ·have hl:=j6 (d1 :: r1) (d2 :: r2)
    have e:List.range' 0 (its1.toArray.toList.zip its2.toArray.toList).length=List.range (min (d1 :: r1).length (d2 :: r2).length):=by
     rw [List.range_eq_range']
     congr 1
     simp only [List.length_zip]
     omega
    have ef:decide (its1.toArray.size < its2.toArray.size)=decide ((d1 :: r1).length < (d2 :: r2).length):=by
     rw [show its1.toArray.size=(d1 :: r1).length by simp at k1 k3 ⊢; omega,show its2.toArray.size=(d2 :: r2).length by simp at k2 k4 ⊢; omega]
    rw [e,ef,hl]
    rw [yM] at hq
    exact hq
end
end L2
namespace SO
open PySem PySem.W PyProof.Rows
section
variable {O:KeyOrd} {prog:Program} {w:World} {A:Around} {E:Value→Shared→Prop} {s:Shared}
end
end SO
namespace L2
open PySem PySem.Spec PyProof.Rows
end L2
set_option maxHeartbeats 4000000
namespace DR
open PySem PySem.W
open Sem (wp)
section
variable {prog:Program} {w:World} {A:Around} {E:Value→Shared→Prop} {s:Shared} {it dd:Addr} {es:Array DictEntry} {i ep:Nat}
end
end DR
namespace L2
open PySem PySem.Spec PyProof.Rows
end L2
namespace L2
open PySem PySem.Spec PyProof.Rows
end L2
namespace L2
open PySem PySem.Spec PyProof.Rows
end L2
namespace ST
open PySem PySem.SetTable
def S5:Nat→Nat
 | 0=>0
 | d+1=>5 * S5 d+1
theorem KR (d:Nat):5 ^ d=4 * S5 d+1:=by
 induction d with
 | zero=>rfl
 | succ d ih=>rw [Nat.pow_succ,ih]; show (4 * S5 d+1) * 5=4 * (5 * S5 d+1)+1; omega
theorem G7 (d e:Nat):S5 (d+e)=5 ^ e * S5 d+S5 e:=by
 induction e with
 | zero=>show S5 d=5 ^ 0 * S5 d+0; simp
 | succ e ih =>
  show 5 * S5 (d+e)+1=5 ^ (e+1) * S5 d+(5 * S5 e+1)
  rw [ih,Nat.pow_succ]
  have:5 * (5 ^ e * S5 d)=5 ^ e * 5 * S5 d:=by rw [Nat.mul_comm (5 ^ e) 5,Nat.mul_assoc]
  omega
theorem Jt (k:Nat):∃ a b:Nat,5 ^ (2 ^ k)=1+2 ^ (k+2) * a∧S5 (2 ^ k)=2 ^ k * (2 * b+1):=by
 induction k with
 | zero=>exact ⟨1,0,rfl,rfl⟩
 | succ k ih =>
  obtain ⟨a,b,h1,h2⟩:=ih
  have e:2 ^ (k+1)=2 ^ k+2 ^ k:=by rw [Nat.pow_succ]; omega
  refine ⟨a+2 ^ (k+1) * (a * a),b+2 ^ k * a+2 * (b * (2 ^ k * a)),?_,?_⟩
  ·have e3:(2:Nat) ^ (k+1+2)=2 * 2 ^ (k+2):=by rw [show k+1+2=(k+2)+1 from rfl,Nat.pow_succ,Nat.mul_comm]
   have e4:(2:Nat) ^ (k+2)=4 * 2 ^ k:=by rw [Nat.pow_add]; omega
   rw [e3,e4,e,Nat.pow_add,h1,e4]
   generalize (2:Nat) ^ k=x
   grind
  ·rw [e,G7,h1,h2]
   have e4:(2:Nat) ^ (k+2)=4 * 2 ^ k:=by rw [Nat.pow_add]; omega
   rw [e4]
   generalize (2:Nat) ^ k=x
   grind
theorem QC (k:Nat):∀ i r:Nat,∃ d,d < 2 ^ k∧(5 ^ d * i+S5 d) % 2 ^ k=r % 2 ^ k:=by
 induction k with
 | zero=>intro i r; exact ⟨0,by decide,by rw [Nat.pow_zero,Nat.mod_one,Nat.mod_one]⟩
 | succ k ih =>
  intro i r
  obtain ⟨d,hd,e⟩:=ih i r
  obtain ⟨a,b,h1,h2⟩:=Jt k
  have e2:(2:Nat) ^ (k+1)=2 * 2 ^ k:=by rw [Nat.pow_succ,Nat.mul_comm]
  have hx:0 < (2:Nat) ^ k:=Nat.pow_pos (by decide)
  generalize hy:5 ^ d * i+S5 d=y at e
  by_cases h:y % (2 * 2 ^ k)=r % (2 * 2 ^ k)
  ·exact ⟨d,by omega,by rw [hy,e2]; exact h⟩
  ·refine ⟨d+2 ^ k,by omega,?_⟩
   have e3:5 ^ (d+2 ^ k) * i+S5 (d+2 ^ k)=5 ^ (2 ^ k) * y+S5 (2 ^ k):=by
    rw [G7,Nat.pow_add,← hy]
    generalize 5 ^ 2 ^ k=u
    generalize 5 ^ d=v
    generalize S5 d=s
    grind
   rw [e3,h1,h2,e2]
   have e4:(2:Nat) ^ (k+2)=2 * 2 ^ k * 2:=by rw [Nat.pow_add]; omega
   rw [e4]
   generalize (2:Nat) ^ k=x at *
   have e5:(1+2 * x * 2 * a) * y+x * (2 * b+1)=(y+x)+2 * x * (2 * a * y+b):=by grind
   rw [e5,Nat.add_mul_mod_self_left]
   have q1:=Nat.mod_add_div y x
   have q2:=Nat.mod_add_div r x
   have m1:y % (2 * x)=y % x+x * (y / x % 2):=by rw [Nat.mul_comm 2 x,Nat.mod_mul]
   have m2:r % (2 * x)=r % x+x * (r / x % 2):=by rw [Nat.mul_comm 2 x,Nat.mod_mul]
   have m3:(y+x) % (2 * x)=(y+x) % x+x * ((y+x) / x % 2):=by rw [Nat.mul_comm 2 x,Nat.mod_mul]
   have q3:(y+x) % x=y % x:=Nat.add_mod_right y x
   have q4:(y+x) / x=y / x+1:=Nat.add_div_right y hx
   rw [m3,m2,q3,q4,e]
   have p1:y / x % 2≠r / x % 2:=fun z=>h (by rw [m1,m2,e,z])
   have p2:(y / x+1) % 2=r / x % 2:=by omega
   rw [p2]
def dR (mask:Nat):Nat→Nat × Nat→Nat × Nat
 | 0,p=>p
 | n+1,p=>dR mask n (leap mask p.1 p.2)
theorem Ad (mask n:Nat):∀ p:Nat × Nat,(dR mask n p).2=p.2 / 32 ^ n:=by
 induction n with
 | zero=>intro p; show p.2=_; rw [Nat.pow_zero,Nat.div_one]
 | succ n ih =>
  intro p
  show (dR mask n (leap mask p.1 p.2)).2=_
  rw [ih]
  show p.2 / 32 / 32 ^ n=_
  rw [Nat.div_div_eq_div_mul,Nat.pow_succ,Nat.mul_comm]
theorem lM (mask n m:Nat):∀ p,dR mask (n+m) p=dR mask m (dR mask n p):=by
 induction n with
 | zero=>intro p; rw [Nat.zero_add]; rfl
 | succ n ih=>intro p; rw [Nat.succ_add]; exact ih _
theorem NZ (mask n:Nat):∀ i,i≤mask→dR mask n (i,0)=((5 ^ n * i+S5 n) % (mask+1),0):=by
 induction n with
 | zero=>intro i hi; show (i,0)=_; rw [Nat.pow_zero,Nat.one_mul]; show (i,0)=((i+0) % (mask+1),0); rw [Nat.add_zero,Nat.mod_eq_of_lt (by omega)]
 | succ n ih =>
  intro i hi
  show dR mask n (leap mask i 0)=_
  have e:leap mask i 0=((i * 5+1) % (mask+1),0):=rfl
  rw [e,ih _ (by have:=Nat.mod_lt (i * 5+1) (show 0 < mask+1 by omega); omega)]
  congr 1
  have:∀ x y z M:Nat,(x * (y % M)+z) % M=(x * y+z) % M:=fun x y z M=>by
   rw [Nat.add_mod,Nat.mul_mod,Nat.mod_mod,← Nat.mul_mod,← Nat.add_mod]
  rw [this]
  congr 1
  have e1:S5 (n+1)=5 ^ n+S5 n:=by
   have:=KR n
   show 5 * S5 n+1=_
   omega
  rw [e1,Nat.pow_succ]
  generalize 5 ^ n=u
  generalize S5 n=s
  grind
theorem rF {k mask:Nat} (hm:mask+1=2 ^ k) {i p r:Nat} (hp:p < 2 ^ 64) (hr:r≤mask):∃ n,1≤n∧n≤mask+14∧(dR mask n (i,p)).1=r:=by
 have h13:(dR mask 13 (i,p)).2=0:=by
  rw [Ad]
  exact Nat.div_eq_of_lt (by show p < 32 ^ 13; omega)
 have hi:(dR mask 13 (i,p)).1≤mask:=by
  have e:dR mask 13 (i,p)=leap mask (dR mask 12 (i,p)).1 (dR mask 12 (i,p)).2:=lM mask 12 1 _
  rw [e]
  have:=Nat.mod_lt ((dR mask 12 (i,p)).1 * 5+1+(dR mask 12 (i,p)).2 / 32) (show 0 < mask+1 by omega)
  show _ % (mask+1)≤mask
  omega
 generalize hq:dR mask 13 (i,p)=q at h13 hi
 obtain ⟨d,hd,e⟩:=QC k q.1 r
 refine ⟨13+d,by omega,by omega,?_⟩
 rw [lM,hq,show q=(q.1,0) from Prod.ext rfl h13,NZ _ _ _ hi]
 show (5 ^ d * q.1+S5 d) % (mask+1)=r
 rw [hm,e,Nat.mod_eq_of_lt (by omega)]
def adv (t:SetTable):Nat→Probe→Probe
 | 0,p=>p
 | d+1,p=>adv t d (t.advance p)
theorem rT (t:SetTable) (d e:Nat):∀ p,adv t (d+e) p=adv t e (adv t d p):=by
 induction d with
 | zero=>intro p; rw [Nat.zero_add]; rfl
 | succ d ih=>intro p; rw [Nat.succ_add]; exact ih _
theorem rH (mask i:Nat):runEnd mask i - i≤9:=by
 unfold runEnd
 split <;> omega
theorem Cj (t:SetTable):∀ (m:Nat) (q:Probe),q.more=m→(adv t m q).more=0∧(adv t m q).i=q.i∧(adv t m q).perturb=q.perturb:=by
 intro m
 induction m with
 | zero=>intro q h; exact ⟨h,rfl,rfl⟩
 | succ m ih =>
  intro q h
  have e:t.advance q={ q with j:=q.j+1,more:=q.more - 1 }:=by
   unfold SetTable.advance
   rw [if_pos (by omega)]
  show (adv t m (t.advance q)).more=0∧_
  obtain ⟨a,b,c⟩:=ih (t.advance q) (by rw [e]; show q.more - 1=m; omega)
  rw [e] at b c
  exact ⟨a,by show (adv t m (t.advance q)).i=_; rw [e]; exact b,by show (adv t m (t.advance q)).perturb=_; rw [e]; exact c⟩
theorem reach (t:SetTable):∀ (n:Nat) (q:Probe),q.more≤9→∃ d,d≤10 * (n+1)∧(adv t d q).j=(dR t.mask (n+1) (q.i,q.perturb)).1∧(adv t d q).i=(dR t.mask (n+1) (q.i,q.perturb)).1∧(adv t d q).perturb=(dR t.mask (n+1) (q.i,q.perturb)).2∧(adv t d q).more≤9:=by
 intro n
 induction n with
 | zero =>
  intro q hq
  obtain ⟨a,b,c⟩:=Cj t q.more q rfl
  refine ⟨q.more+1,by omega,?_⟩
  have e:adv t (q.more+1) q=t.advance (adv t q.more q):=rT t q.more 1 q
  have e2:t.advance (adv t q.more q)={ adv t q.more q with j:=(leap t.mask q.i q.perturb).1,more:=runEnd t.mask (leap t.mask q.i q.perturb).1 - (leap t.mask q.i q.perturb).1,i:=(leap t.mask q.i q.perturb).1,perturb:=(leap t.mask q.i q.perturb).2 }:=by
   unfold SetTable.advance
   rw [if_neg (by omega),b,c]
  rw [e,e2]
  exact ⟨rfl,rfl,rfl,rH _ _⟩
 | succ n ih =>
  intro q hq
  obtain ⟨d,hd,h1,h2,h3,h4⟩:=ih q hq
  obtain ⟨a,b,c⟩:=Cj t (adv t d q).more (adv t d q) rfl
  refine ⟨d+((adv t d q).more+1),by omega,?_⟩
  have e:adv t (d+((adv t d q).more+1)) q=t.advance (adv t (adv t d q).more (adv t d q)):=by rw [rT,rT]; rfl
  have e3:dR t.mask (n+1+1) (q.i,q.perturb)=leap t.mask (adv t d q).i (adv t d q).perturb:=by
   rw [lM _ (n+1) 1,h2,h3]
   rfl
  have e2:t.advance (adv t (adv t d q).more (adv t d q))={ adv t (adv t d q).more (adv t d q) with j:=(leap t.mask (adv t d q).i (adv t d q).perturb).1,more:=runEnd t.mask (leap t.mask (adv t d q).i (adv t d q).perturb).1 - (leap t.mask (adv t d q).i (adv t d q).perturb).1,i:=(leap t.mask (adv t d q).i (adv t d q).perturb).1,perturb:=(leap t.mask (adv t d q).i (adv t d q).perturb).2 }:=by
   unfold SetTable.advance
   rw [if_neg (by omega),b,c]
  rw [e,e2,e3]
  exact ⟨rfl,rfl,rfl,rH _ _⟩
theorem meets {k:Nat} {t:SetTable} (hm:t.mask+1=2 ^ k) {q:Probe} (hq:q.more≤9) (hp:q.perturb < 2 ^ 64) {r:Nat} (hr:r≤t.mask):∃ d,d≤10 * (t.mask+14)∧(adv t d q).j=r:=by
 obtain ⟨n,h1,h2,h3⟩:=rF (mask:=t.mask) hm (i:=q.i) hp hr
 obtain ⟨m,rfl⟩:∃ m,n=m+1:=⟨n - 1,by omega⟩
 obtain ⟨d,hd,e,_⟩:=reach t m q hq
 exact ⟨d,by omega,by rw [e,h3]⟩
def JV (t:SetTable) (q:Probe) (d:Nat):Prop:=t.slot (adv t d q).j=.empty∧∀ e < d,t.slot (adv t e q).j≠.empty
theorem Jg {t:SetTable} {q:Probe}:∀ (d:Nat),t.slot (adv t d q).j=.empty→∃ e,e≤d∧JV t q e:=by
 intro d
 induction d using Nat.strongRecOn with
 | ind d ih =>
  intro h
  by_cases z:∃ e,e < d∧t.slot (adv t e q).j=.empty
  ·obtain ⟨e,he,h2⟩:=z
   obtain ⟨e',h3,h4⟩:=ih e he h2
   exact ⟨e',by omega,h4⟩
  ·exact ⟨d,Nat.le_refl _,h,fun e he h2=>z ⟨e,he,h2⟩⟩
theorem JV.next {t:SetTable} {q:Probe} {d:Nat} (h:JV t q (d+1)):JV t (t.advance q) d:=⟨h.1,fun e he=>h.2 (e+1) (by omega)⟩
theorem Di {t:SetTable} (hd:t.dummies = #[]) {hashAt:Nat→Int} {h:Int}:∀ (d fuel:Nat) (q:Probe),JV t q d→d < fuel →
  (SetTable.probe.go t hashAt h fuel q=some (.empty (adv t d q).j q.dummy))∨∃ e i,e < d∧t.slot (adv t e q).j=.live i∧hashAt i=h∧SetTable.probe.go t hashAt h fuel q=some (.candidate (adv t e q).j i (t.advance (adv t e q))):=by
 intro d
 induction d with
 | zero =>
  intro fuel q h hf
  obtain ⟨fuel,rfl⟩:∃ f,fuel=f+1:=⟨fuel - 1,by omega⟩
  refine .inl ?_
  unfold SetTable.probe.go
  have:t.slot q.j=.empty:=h.1
  rw [this]
  rfl
 | succ d ih =>
  intro fuel q hD hf
  obtain ⟨fuel,rfl⟩:∃ f,fuel=f+1:=⟨fuel - 1,by omega⟩
  have hne:t.slot q.j≠.empty:=hD.2 0 (by omega)
  cases hs:t.slot q.j with
  | empty=>exact absurd hs hne
  | dummy =>
   exfalso
   unfold SetTable.slot at hs
   simp only at hs
   split at hs
   ·cases hs
   ·split at hs
    ·rename_i h2
     unfold SetTable.has at h2
     rw [hd] at h2
     simp at h2
    ·cases hs
  | live i =>
   by_cases hh:hashAt i=h
   ·refine .inr ⟨0,i,by omega,hs,hh,?_⟩
    unfold SetTable.probe.go
    rw [hs]
    simp only [hh,beq_self_eq_true,if_true]
    rfl
   ·have e0:SetTable.probe.go t hashAt h (fuel+1) q=SetTable.probe.go t hashAt h fuel (t.advance q):=by
     rw [SetTable.probe.go]
     rw [hs]
     simp only
     rw [if_neg (by simpa using hh)]
    have hdum:(t.advance q).dummy=q.dummy:=by
     unfold SetTable.advance
     split <;> rfl
    rw [e0]
    rcases ih fuel (t.advance q) hD.next (by omega) with h1 | ⟨e,i',h1,h2,h3,h4⟩
    ·exact .inl (by rw [h1,hdum]; rfl)
    ·exact .inr ⟨e+1,i',by omega,h2,h3,h4⟩
end ST
namespace ST
open PySem PySem.SetTable
def Up (xs:Array Nat):Prop:=xs.toList.Pairwise (· < ·)
theorem Up.lt {xs:Array Nat} (h:Up xs) {i k a b:Nat} (hik:i < k) (ha:xs[i]?=some a) (hb:xs[k]?=some b):a < b:=by
 rw [← Array.getElem?_toList] at ha hb
 obtain ⟨h1,e1⟩:=List.getElem?_eq_some_iff.mp ha
 obtain ⟨h2,e2⟩:=List.getElem?_eq_some_iff.mp hb
 have:=List.pairwise_iff_getElem.mp h i k h1 h2 hik
 rw [e1,e2] at this
 exact this
theorem Up.nil:Up #[]:=List.Pairwise.nil
theorem FJ {xs:Array Nat} {j:Nat} (h:Up xs):∀ (fuel lo hi:Nat),hi≤xs.size→lo≤hi→hi - lo≤fuel→(∀ i v,i < lo→xs[i]?=some v→v < j)→(∀ i v,hi≤i→xs[i]?=some v→j≤v) →
  SetTable.below.go xs j fuel lo hi≤xs.size∧(∀ i v,i < SetTable.below.go xs j fuel lo hi→xs[i]?=some v→v < j)∧(∀ i v,SetTable.below.go xs j fuel lo hi≤i→xs[i]?=some v→j≤v):=by
 intro fuel
 induction fuel with
 | zero =>
  intro lo hi h1 h2 h3 h4 h5
  unfold SetTable.below.go
  exact ⟨by omega,h4,fun i v hi'=>h5 i v (by omega)⟩
 | succ fuel ih =>
  intro lo hi h1 h2 h3 h4 h5
  unfold SetTable.below.go
  by_cases hl:lo < hi
  ·rw [if_pos hl]
   dsimp only
   have hm:(lo+hi) / 2 < xs.size:=by omega
   have hg:xs[(lo+hi) / 2]?=some (xs.getD ((lo+hi) / 2) j):=by
    rw [Array.getD_eq_getD_getElem?,Array.getElem?_eq_getElem hm]
    rfl
   generalize xs.getD ((lo+hi) / 2) j=m at hg ⊢
   by_cases hq:m < j
   ·rw [if_pos hq]
    refine ih _ _ h1 (by omega) (by omega) (fun i v hi' hv=>?_) h5
    rcases Nat.lt_or_ge i ((lo+hi) / 2) with z | z
    ·exact Nat.lt_trans (h.lt z hv hg) hq
    ·obtain rfl:i=(lo+hi) / 2:=by omega
     rw [hg] at hv
     cases hv
     exact hq
   ·rw [if_neg hq]
    refine ih _ _ (by omega) (by omega) (by omega) h4 fun i v hi' hv=>?_
    rcases Nat.lt_or_ge ((lo+hi) / 2) i with z | z
    ·have:=h.lt z hg hv
     omega
    ·obtain rfl:i=(lo+hi) / 2:=by omega
     rw [hg] at hv
     cases hv
     omega
  ·rw [if_neg hl]
   exact ⟨by omega,h4,fun i v hi'=>h5 i v (by omega)⟩
theorem m8 {xs:Array Nat} {j:Nat} (h:Up xs):below xs j≤xs.size∧(∀ i v,i < below xs j→xs[i]?=some v→v < j)∧(∀ i v,below xs j≤i→xs[i]?=some v→j≤v):=by
 unfold SetTable.below
 refine FJ h _ _ _ (Nat.le_refl _) (Nat.zero_le _) (by omega) (fun i v hi=>absurd hi (Nat.not_lt_zero _)) fun i v hi hv=>?_
 rw [Array.getElem?_eq_none hi] at hv
 cases hv
theorem below_at {xs:Array Nat} {j i:Nat} (h:Up xs) (hi:i≤xs.size) (h1:∀ k v,k < i→xs[k]?=some v→v < j) (h2:∀ k v,i≤k→xs[k]?=some v→j≤v):below xs j=i:=by
 obtain ⟨a,b,c⟩:=m8 (j:=j) h
 rcases Nat.lt_trichotomy (below xs j) i with z | z | z
 ·have e:=Array.getElem?_eq_getElem (xs:=xs) (i:=below xs j) (by omega)
  have:=h1 _ _ z e
  have:=c _ _ (Nat.le_refl _) e
  omega
 ·exact z
 ·have e:=Array.getElem?_eq_getElem (xs:=xs) (i:=i) (by omega)
  have:=h2 _ _ (Nat.le_refl _) e
  have:=b _ _ z e
  omega
theorem wU {xs:Array Nat} (h:Up xs):below xs 0=0:=below_at h (Nat.zero_le _) (fun k v hk=>absurd hk (Nat.not_lt_zero _)) fun _ _ _ _=>Nat.zero_le _
theorem wC {xs:Array Nat} {i v:Nat} (h:Up xs) (hv:xs[i]?=some v):below xs (v+1)=i+1:=by
 have hs:i < xs.size:=by
  rcases Nat.lt_or_ge i xs.size with z | z
  ·exact z
  ·rw [Array.getElem?_eq_none z] at hv
   cases hv
 refine below_at h hs (fun k u hk hu=>?_) fun k u hk hu=>h.lt hk hv hu
 rcases Nat.lt_or_ge k i with z | z
 ·exact Nat.lt_succ_of_lt (h.lt z hu hv)
 ·obtain rfl:k=i:=by omega
  rw [hv] at hu
  cases hu
  exact Nat.lt_succ_self _
theorem tQ {α:Type} (xs:Array α) (p:Nat) (x:α):(SetTable.insertAt xs p x).toList=xs.toList.take p++x :: xs.toList.drop p:=by
 unfold SetTable.insertAt
 rw [Array.toList_append,Array.toList_push,Array.toList_extract,Array.toList_extract,List.extract_eq_take_drop,List.extract_eq_take_drop]
 have e:(xs.toList.drop p).take (xs.size - p)=xs.toList.drop p:=List.take_of_length_le (by rw [List.length_drop,Array.length_toList]; omega)
 rw [e,List.drop_zero,Nat.sub_zero,List.append_assoc]
 rfl
theorem yp {xs:Array Nat} {j:Nat} (h:Up xs) (hn:xs[below xs j]?≠some j):Up (SetTable.insertAt xs (below xs j) j):=by
 obtain ⟨a,b,c⟩:=m8 (j:=j) h
 have h0:=h
 unfold Up at h0 ⊢
 rw [tQ]
 rw [← List.take_append_drop (below xs j) xs.toList] at h0
 obtain ⟨p1,p2,p3⟩:=List.pairwise_append.mp h0
 have l1:∀ x∈xs.toList.take (below xs j),x < j:=fun x hx=>by
  obtain ⟨i,hi,e⟩:=List.mem_iff_getElem.mp hx
  rw [List.length_take] at hi
  rw [List.getElem_take] at e
  exact b i x (by omega) (by rw [← Array.getElem?_toList]; exact List.getElem?_eq_some_iff.mpr ⟨by omega,e⟩)
 have l2:∀ x∈xs.toList.drop (below xs j),j < x:=fun x hx=>by
  obtain ⟨i,hi,e⟩:=List.mem_iff_getElem.mp hx
  rw [List.length_drop] at hi
  rw [List.getElem_drop] at e
  have q:xs[below xs j+i]?=some x:=by rw [← Array.getElem?_toList]; exact List.getElem?_eq_some_iff.mpr ⟨by omega,e⟩
  have:=c _ _ (Nat.le_add_right _ _) q
  rcases Nat.lt_or_ge j x with z | z
  ·exact z
  ·exfalso
   obtain rfl:x=j:=by omega
   cases i with
   | zero=>exact hn q
   | succ i =>
    have e2:=Array.getElem?_eq_getElem (xs:=xs) (i:=below xs x) (by rw [Array.length_toList] at hi; omega)
    have:=h.lt (by omega) e2 q
    have:=c _ _ (Nat.le_refl _) e2
    omega
 refine List.pairwise_append.mpr ⟨p1,List.pairwise_cons.mpr ⟨l2,p2⟩,fun x hx y hy=>?_⟩
 rcases List.mem_cons.mp hy with rfl | hy
 ·exact l1 x hx
 ·exact p3 x hx y hy
theorem wz {t:SetTable} {j:Nat} (h:t.slot j=.empty):t.place[below t.place j]?≠some j:=by
 intro e
 unfold SetTable.slot at h
 dsimp only at h
 rw [e] at h
 simp at h
theorem Iz (N:Nat) (f:Nat→Option Nat):Up (((List.range N).filterMap fun j=>(f j).map (j,·)).map (·.1)).toArray:=by
 show List.Pairwise (· < ·) (((List.range N).filterMap fun j=>(f j).map (j,·)).map (·.1))
 rw [List.map_filterMap,List.pairwise_filterMap]
 refine List.Pairwise.imp ?_ List.pairwise_lt_range
 intro a b hab x hx y hy
 cases ha:f a <;> rw [ha] at hx <;> simp at hx
 cases hb:f b <;> rw [hb] at hy <;> simp at hy
 omega
end ST
namespace ST
open PySem PySem.SetTable
theorem holes:∀ (N:Nat) (l:List Nat),(∀ r,r < N→r∈l)→N≤l.length:=by
 intro N
 induction N with
 | zero=>intro l _; exact Nat.zero_le _
 | succ N ih =>
  intro l h
  have h1:=h N (by omega)
  have:=ih (l.erase N) fun r hr=>(List.mem_erase_of_ne (by omega)).mpr (h r (by omega))
  rw [List.length_erase_of_mem h1] at this
  have:=List.length_pos_of_mem h1
  omega
theorem hole {N:Nat} {l:List Nat} (h:l.length < N):∃ r,r < N∧r ∉ l:=by
 by_cases z:∃ r,r < N∧r ∉ l
 ·exact z
 ·have:=holes N l fun r hr=>by
   by_cases q:r∈l
   ·exact q
   ·exact absurd ⟨r,hr,q⟩ z
  omega
structure TOk (t:SetTable) (n:Nat):Prop where
 k:∃ k,t.mask+1=2 ^ k
 d:t.dummies = #[]
 sz:t.place.size=n
 room:n≤t.mask
 o:t.mask % 2=1
 up:Up t.place
theorem TOk.empty {t:SetTable} {n:Nat} (h:TOk t n):∃ r,r≤t.mask∧t.slot r=.empty:=by
 obtain ⟨r,hr,hn⟩:=hole (N:=t.mask+1) (l:=t.place.toList) (by rw [Array.length_toList,h.sz]; have:=h.room; omega)
 refine ⟨r,by omega,?_⟩
 unfold SetTable.slot
 simp only
 rw [if_neg,if_neg]
 ·unfold SetTable.has
  rw [h.d]
  simp
 ·intro z
  refine hn ?_
  have z:=eq_of_beq z
  rw [← Array.getElem?_toList] at z
  exact List.mem_of_getElem? z
theorem TOk.dist {t:SetTable} {n:Nat} (h:TOk t n) {q:Probe} (hq:q.more≤9) (hp:q.perturb < 2 ^ 64):∃ d,d≤10 * (t.mask+14)∧JV t q d:=by
 obtain ⟨k,hk⟩:=h.k
 obtain ⟨r,hr,he⟩:=h.empty
 obtain ⟨d,hd,e⟩:=meets hk hq hp hr
 obtain ⟨e',h1,h2⟩:=Jg d (by rw [e]; exact he)
 exact ⟨e',by omega,h2⟩
theorem uO (t:SetTable) (h:Int):(t.probeStart h).more≤9∧(t.probeStart h).perturb < 2 ^ 64∧(t.probeStart h).dummy=none:=by
 refine ⟨rH _ _,?_,rfl⟩
 show bits h < 2 ^ 64
 unfold bits
 have h1:=Int.emod_nonneg h (b:=(2 ^ 64:Int)) (by decide)
 have h2:=Int.emod_lt_of_pos h (b:=(2 ^ 64:Int)) (by decide)
 omega
def vals (N:Nat) (owner:Array (Option Nat)):List Nat:=(List.range N).filterMap fun j=>owner.getD j none
theorem zH {mask:Nat} {owner:Array (Option Nat)}:∀ (n fuel i p:Nat),n < fuel→(owner.getD (dR mask n (i,p)).1 (some 0))=none→∃ j,SetTable.layClean.free mask owner fuel i p=some j∧owner.getD j (some 0)=none:=by
 intro n
 induction n with
 | zero =>
  intro fuel i p hf he
  obtain ⟨fuel,rfl⟩:∃ f,fuel=f+1:=⟨fuel - 1,by omega⟩
  unfold SetTable.layClean.free
  cases hq:(List.range (runEnd mask i+1 - i)).find? fun k=>(owner.getD (i+k) (some 0)).isNone with
  | some k =>
   refine ⟨i+k,rfl,?_⟩
   have:=List.find?_some hq
   simpa using this
  | none =>
   exfalso
   have h0:=List.find?_eq_none.mp hq 0 (List.mem_range.mpr (by unfold runEnd; split <;> omega))
   have he:owner.getD i (some 0)=none:=he
   refine h0 ?_
   show (owner.getD (i+0) (some 0)).isNone=true
   rw [Nat.add_zero,he]
   rfl
 | succ n ih =>
  intro fuel i p hf he
  obtain ⟨fuel,rfl⟩:∃ f,fuel=f+1:=⟨fuel - 1,by omega⟩
  unfold SetTable.layClean.free
  cases hq:(List.range (runEnd mask i+1 - i)).find? fun k=>(owner.getD (i+k) (some 0)).isNone with
  | some k =>
   refine ⟨i+k,rfl,?_⟩
   have:=List.find?_some hq
   simpa using this
  | none=>exact ih fuel _ _ (by omega) he
theorem FP {N j m:Nat} {owner:Array (Option Nat)} (hs:owner.size=N) (hj:owner.getD j (some 0)=none):(vals N (owner.setIfInBounds j (some m))).Perm (m :: vals N owner):=by
 have hlt:j < N:=by
  rw [← hs]
  rcases Nat.lt_or_ge j owner.size with h | h
  ·exact h
  ·rw [Array.getD_eq_getD_getElem?,Array.getElem?_eq_none h] at hj
   cases hj
 have hjn:owner.getD j none=none:=by
  rw [Array.getD_eq_getD_getElem?,Array.getElem?_eq_getElem (by omega)] at hj ⊢
  exact hj
 have hat:(owner.setIfInBounds j (some m)).getD j none=some m:=by
  rw [Array.getD_eq_getD_getElem?,Array.getElem?_setIfInBounds,if_pos rfl,if_pos (by omega)]
  rfl
 have hne:∀ i,i≠j→(owner.setIfInBounds j (some m)).getD i none=owner.getD i none:=fun i hi=>by
  rw [Array.getD_eq_getD_getElem?,Array.getD_eq_getD_getElem?,Array.getElem?_setIfInBounds,if_neg (by omega)]
 obtain ⟨r,rfl⟩:∃ r,N=j+(r+1):=⟨N - j - 1,by omega⟩
 have fc:∀ {f g:Nat→Option Nat} {l:List Nat},(∀ x∈l,f x=g x)→l.filterMap f=l.filterMap g:=fun {f g l} h=>by
  induction l with
  | nil=>rfl
  | cons x l ih=>rw [List.filterMap_cons,List.filterMap_cons,h x List.mem_cons_self,ih fun y hy=>h y (List.mem_cons_of_mem _ hy)]
 have e:List.range (j+(r+1))=List.range j++j :: (List.range r).map fun x=>j+(x+1):=by
  rw [List.range_add,List.range_succ_eq_map,List.map_cons,List.map_map]
  rfl
 unfold vals
 rw [e,List.filterMap_append,List.filterMap_append,List.filterMap_cons,List.filterMap_cons,hat,hjn]
 rw [fc (g:=fun i=>owner.getD i none) fun x hx=>hne x (by have:=List.mem_range.mp hx; omega)]
 rw [fc (f:=fun i=>(owner.setIfInBounds j (some m)).getD i none) (g:=fun i=>owner.getD i none) (l:=(List.range r).map fun x=>j+(x+1)) fun x hx=>by
  obtain ⟨y,_,rfl⟩:=List.mem_map.mp hx
  exact hne _ (by omega)]
 exact List.perm_middle
theorem CP (N:Nat):vals N (Array.replicate N none)=[]:=by
 unfold vals
 rw [List.filterMap_eq_nil_iff]
 intro j hj
 rw [Array.getD_eq_getD_getElem?,Array.getElem?_replicate]
 split <;> rfl
theorem yP {mask:Nat} {owner:Array (Option Nat)} (hs:owner.size=mask+1) (h:(vals (mask+1) owner).length≤mask):∃ r,r≤mask∧owner.getD r (some 0)=none:=by
 by_cases z:∃ r,r≤mask∧owner.getD r (some 0)=none
 ·exact z
 ·exfalso
  have:(vals (mask+1) owner).length=mask+1:=by
   unfold vals
   have:∀ l:List Nat,(∀ x∈l,x≤mask)→(l.filterMap fun j=>owner.getD j none).length=l.length:=fun l hl=>by
    induction l with
    | nil=>rfl
    | cons x l ih =>
     have hx:=hl x List.mem_cons_self
     have hv:∃ v,owner.getD x none=some v:=by
      rw [Array.getD_eq_getD_getElem?,Array.getElem?_eq_getElem (by omega)]
      cases q:owner[x] with
      | none=>exact absurd ⟨x,hx,by rw [Array.getD_eq_getD_getElem?,Array.getElem?_eq_getElem (by omega),q]; rfl⟩ z
      | some v=>exact ⟨v,rfl⟩
     obtain ⟨v,hv⟩:=hv
     rw [List.filterMap_cons,hv]
     show (l.filterMap _).length+1=l.length+1
     rw [ih fun y hy=>hl y (List.mem_cons_of_mem _ hy)]
   rw [this _ fun x hx=>by have:=List.mem_range.mp hx; omega,List.length_range]
  omega
theorem Ge {mask k:Nat} (hm:mask+1=2 ^ k):∀ (hs:List Int) (owner:Array (Option Nat)) (m:Nat),owner.size=mask+1→(vals (mask+1) owner).Perm (List.range m)→m+hs.length≤mask →
  ∃ owner':Array (Option Nat),(hs.foldl (fun (acc:Option (Array (Option Nat) × Nat)) h=>do
   let (owner,k) ← acc
   let j ← SetTable.layClean.free mask owner (turns mask) (bits h % (mask+1)) (bits h)
   pure (owner.setIfInBounds j (some k),k+1)) (some (owner,m)))=some (owner',m+hs.length)∧owner'.size=mask+1∧(vals (mask+1) owner').Perm (List.range (m+hs.length)):=by
 intro hs
 induction hs with
 | nil=>intro owner m h1 h2 _; exact ⟨owner,rfl,h1,h2⟩
 | cons h hs ih =>
  intro owner m h1 h2 h3
  rw [List.length_cons] at h3
  obtain ⟨r,hr,he⟩:=yP h1 (by rw [h2.length_eq,List.length_range]; omega)
  have hb:bits h < 2 ^ 64:=(uO (SetTable.fresh 0 0 true) h).2.1
  obtain ⟨n,_,hn,e⟩:=rF hm (i:=bits h % (mask+1)) hb hr
  obtain ⟨j,hj1,hj2⟩:=zH n (turns mask) (bits h % (mask+1)) (bits h) (by unfold turns; omega) (by rw [e]; exact he)
  have hp:(vals (mask+1) (owner.setIfInBounds j (some m))).Perm (List.range (m+1)):=by
   refine (FP h1 hj2).trans ?_
   rw [List.range_succ]
   exact (h2.cons m).trans (List.perm_append_singleton m (List.range m)).symm
  obtain ⟨o',q1,q2,q3⟩:=ih (owner.setIfInBounds j (some m)) (m+1) (by rw [Array.size_setIfInBounds]; exact h1) hp (by omega)
  refine ⟨o',?_,q2,?_⟩
  ·rw [List.foldl_cons,List.length_cons,show m+(hs.length+1)=m+1+hs.length by omega,← q1]
   congr 1
   show (SetTable.layClean.free mask owner (turns mask) (bits h % (mask+1)) (bits h)).bind _=_
   rw [hj1]
   rfl
  ·rw [List.length_cons,show m+(hs.length+1)=m+1+hs.length by omega]
   exact q3
theorem Iu {mask k finger moves:Nat} {led plain:Bool} {hashes:Array Int} (hm:mask+1=2 ^ k) (ho:mask % 2=1) (hn:hashes.size≤mask):∃ (t:SetTable) (order:Array Nat),SetTable.laid mask finger moves led plain hashes=some (t,order)∧TOk t hashes.size∧order.toList.Perm (List.range hashes.size)∧t.mask=mask∧t.plain=plain∧t.led=led:=by
 obtain ⟨o',h1,h2,h3⟩:=Ge hm hashes.toList (Array.replicate (mask+1) none) 0 (Array.size_replicate ..) (by rw [CP]; exact List.Perm.refl _) (by rw [Array.length_toList]; omega)
 rw [Nat.zero_add,Array.length_toList] at h1 h3
 have hl:SetTable.layClean mask hashes=some o':=by
  unfold SetTable.layClean
  rw [← Array.foldl_toList,h1]
  rfl
 have hv:(((List.range (mask+1)).filterMap fun j=>(o'.getD j none).map (j,·)).map (·.2))=vals (mask+1) o':=by
  unfold vals
  rw [List.map_filterMap]
  congr 1
  funext j
  cases o'.getD j none <;> rfl
 have hlen:((List.range (mask+1)).filterMap fun j=>(o'.getD j none).map (j,·)).length=hashes.size:=by
  have:=congrArg List.length hv
  rw [List.length_map] at this
  rw [this,h3.length_eq,List.length_range]
 refine ⟨_,_,by unfold SetTable.laid; rw [hl]; rfl,⟨⟨k,hm⟩,rfl,?_,hn,ho,Iz _ _⟩,?_,rfl,rfl,rfl⟩
 ·show (((List.range (mask+1)).filterMap fun j=>(o'.getD j none).map (j,·)).map (·.1)).toArray.size=_
  rw [List.size_toArray,List.length_map,hlen]
 ·show (((List.range (mask+1)).filterMap fun j=>(o'.getD j none).map (j,·)).map (·.2)).toArray.toList.Perm _
  rw [List.toList_toArray,hv]
  exact h3
theorem Io:∀ (fuel a n:Nat),∃ k,SetTable.sizeAbove.go n fuel (2 ^ a)=2 ^ k∧a≤k∧(n < 2 ^ (a+fuel)→n < 2 ^ k)∧(k=a∨2 ^ k≤2 * n):=by
 intro fuel
 induction fuel with
 | zero=>intro a n; exact ⟨a,rfl,Nat.le_refl _,fun h=>h,.inl rfl⟩
 | succ fuel ih =>
  intro a n
  unfold SetTable.sizeAbove.go
  by_cases h:2 ^ a≤n
  ·rw [if_pos h,show 2 ^ a * 2=2 ^ (a+1) from (Nat.pow_succ ..).symm]
   obtain ⟨k,e,h1,h2,h3⟩:=ih (a+1) n
   refine ⟨k,e,by omega,fun z=>h2 (by rw [show a+1+fuel=a+(fuel+1) by omega]; exact z),?_⟩
   rcases h3 with h3 | h3
   ·refine .inr ?_
    rw [h3,Nat.pow_succ]
    omega
   ·exact .inr h3
  ·rw [if_neg h]
   exact ⟨a,rfl,Nat.le_refl _,fun _=>by omega,.inl rfl⟩
theorem qD {n:Nat} (h:n < 2 ^ 60):∃ k,SetTable.sizeAbove n=2 ^ k∧3≤k∧n < 2 ^ k∧(2 ^ k=8∨2 ^ k≤2 * n):=by
 obtain ⟨k,e,h1,h2,h3⟩:=Io 64 3 n
 refine ⟨k,e,h1,h2 (Nat.lt_trans h (by decide)),?_⟩
 rcases h3 with rfl | h3
 ·exact .inl rfl
 ·exact .inr h3
theorem xV {t:SetTable} {hashes:Array Int} {wanted:Nat} (hw:wanted < 2 ^ 60) (hn:hashes.size≤wanted) (h0:1≤wanted):∃ (t':SetTable) (order:Array Nat),t.relaid hashes wanted=some (t',order)∧TOk t' hashes.size∧order.toList.Perm (List.range hashes.size)∧t'.plain=t.plain∧t'.led=t.led∧(t'.mask≤7∨t'.mask+1≤2 * wanted)∧wanted≤t'.mask:=by
 obtain ⟨k,e,h1,h2,h3⟩:=qD hw
 obtain ⟨t',order,q1,q2,q3,q4,q5,q6⟩:=Iu (mask:=2 ^ k - 1) (k:=k) (finger:=t.finger) (moves:=t.movedTo (2 ^ k - 1)) (led:=t.led) (plain:=t.plain) (hashes:=hashes) (by omega) (by obtain ⟨r,rfl⟩:∃ r,k=r+1:=⟨k - 1,by omega⟩; rw [Nat.pow_succ] at h2 ⊢; omega) (by omega)
 refine ⟨t',order,by unfold SetTable.relaid; rw [e]; exact q1,q2,q3,q5,q6,by rw [q4]; omega,by rw [q4]; omega⟩
end ST
namespace ST
open PySem PySem.SetTable
section
variable {prog:Program} {w:World} {A:Around} {E:Value→Shared→Prop} {s:Shared}
structure NK (prog:Program) (w:World) (h:Heap) (es:Array (Int × Value)) (kas:List (List Int × Addr)):Prop where
 e:es.toList=kas.map fun p=>(tupleKeyHash (intKind prog w) p.1,Value.ref p.2)
 k:∀ p∈kas,IsTupleKey (intKind prog w) h p.1 p.2
end
end ST
namespace ST
open PySem PySem.SetTable
section
variable {prog:Program} {w:World} {A:Around} {E:Value→Shared→Prop} {s:Shared}
theorem tX {α β:Type} {f:α→β} {xs ds:List β} (h:xs.Perm ds):∀ {l:List α},l.map f=xs→∃ ss:List α,ss.Perm l∧ds=ss.map f:=by
 induction h with
 | nil=>intro l e; exact ⟨[],by rw [List.map_eq_nil_iff.mp e],rfl⟩
 | cons x _ ih =>
  intro l e
  cases l with
  | nil=>cases e
  | cons y l =>
   rw [List.map_cons] at e
   injection e with e1 e2
   obtain ⟨ss,p,q⟩:=ih e2
   exact ⟨y :: ss,p.cons y,by rw [List.map_cons,e1,q]⟩
 | swap x y zs =>
  intro l e
  match l,e with
  | a :: b :: l,e =>
   rw [List.map_cons,List.map_cons] at e
   injection e with e1 e2
   injection e2 with e2 e3
   exact ⟨b :: a :: l,List.Perm.swap a b l,by rw [List.map_cons,List.map_cons,e1,e2,e3]⟩
 | trans _ _ ih1 ih2 =>
  intro l e
  obtain ⟨ss,p,q⟩:=ih1 e
  obtain ⟨ts,p2,q2⟩:=ih2 q.symm
  exact ⟨ts,p2.trans p,q2⟩
structure Qg (prog:Program) (w:World) (h:Heap) (S:Addr) (kas:List (List Int × Addr)):Prop where
 ex:∃ (o:Obj) (es:Array (Int × Value)) (ep:Nat) (t:SetTable) (kas':List (List Int × Addr)),h.get? S=some o∧o.ExactSet∧o.data=.set es ep t∧TOk t es.size∧es.size * 5 < t.mask * 3∧t.plain=true∧(w.params.followText "set-order" = true∨t.led=true)∧t.mask≤8000∧kas'.Perm kas∧NK prog w h es kas'
theorem lU {α:Type} (xs:Array α) (p:Nat) (x:α):(SetTable.insertAt xs p x).toList.Perm (x :: xs.toList):=by
 unfold SetTable.insertAt
 rw [Array.toList_append,Array.toList_push,Array.toList_extract,Array.toList_extract,List.extract_eq_take_drop,List.extract_eq_take_drop]
 have e:(xs.toList.drop p).take (xs.size - p)=xs.toList.drop p:=List.take_of_length_le (by rw [List.length_drop,Array.length_toList]; omega)
 rw [e,List.drop_zero,Nat.sub_zero,List.append_assoc]
 refine (List.perm_middle (a:=x)).trans ?_
 show (x :: (List.take p xs.toList++List.drop p xs.toList)).Perm (x :: xs.toList)
 rw [List.take_append_drop]
theorem fJ {α:Type} (xs:Array α) (p:Nat) (x:α):(SetTable.insertAt xs p x).size=xs.size+1:=by
 have:=(lU xs p x).length_eq
 rw [Array.length_toList,List.length_cons,Array.length_toList] at this
 exact this
end
end ST
namespace SX
open PySem PySem.Spec PyProof.Rows
section
variable {prog:Program} {w:World} {A:Around} {R:Result→Shared→Prop} {I:Addr} {fp wr:List Addr} {G:Array GenState→Array GenState→Prop} {n:Nat} {P:Nat→Value→Prop} {St:Nat→Shared→Prop}
end
set_option maxHeartbeats 6400000 in
theorem iK {prog:Program} {w:World} {A:Around} {E:Value→Shared→Prop} {s:Shared} (a:Value) {Q₁:Value→Shared→Prop}
  (h:Q₁ (.ref s.heap.objs.size) { s with heap:=s.heap.push { cls:=.type "set",dict:=none,data:=.set #[] 0 (.fresh 0 0 (!w.params.followText "set-order")) } }) :
  codeAny (model prog w) A (.call (.builtin "set.__new__") ⟨[.type "set",a],[]⟩) (wants Q₁ E) s:=by
 refine codeAny_of_tree ?_
 show wpAny _ A.in1 (do checkBuiltinCall "set.__new__" ⟨[.type "set",a],[]⟩; again (.builtin "set.__new__" ⟨[.type "set",a],[]⟩)) _ _ s
 refine wpAny_bind (wpAny_of_eq (F.newCall_set_1 a) (wpAny_pure ⟨plainId_quiet F.plain_set_new _,codeAny_builtin F.entry_set_new ?_⟩))
 rw [Around.under_plainId F.plain_set_new _]
 unfold Builtin.«set.__new__» Builtin.Frozenset.newClass
 have hsub:=sub_set_self
 obtain ⟨hp,g,d,tk,os⟩:=s
 dsimp only
 wp_walk
 refine wpAny_askSetting (wpAny_pure ?_)
 dsimp only
 simp only [newObj]
 refine wpAny_bind (wpAny_alloc (wpAny_pure ?_))
 exact wpAny_pure h
end SX
namespace SA
open PySem PySem.Spec PyProof.Rows
theorem wG {α:Type} {l:List α} {i:Nat} (h:i < l.length):(l[i] :: l.eraseIdx i).Perm l:=by
 have e:l=l.take i++l[i] :: l.drop (i+1):=by
  rw [List.getElem_cons_drop,List.take_append_drop]
 rw [List.eraseIdx_eq_take_drop_succ]
 exact (List.perm_middle.symm).trans (by rw [← e])
theorem Bq {α:Type} (next:Nat→Nat):∀ (fuel k:Nat) (left:List α) (out:Array α),left.length≤fuel→(pickOrder.go next fuel k left out).toList.Perm (out.toList++left)
 | 0,k,left,out,h=>by
  have e:left=[]:=List.length_eq_zero_iff.mp (by omega)
  subst e
  rw [pickOrder.go,List.append_nil]
 | fuel+1,k,left,out,h=>by
  rw [pickOrder.go]
  cases hx:left[next k % left.length]? with
  | none =>
   have e:left=[]:=by
    cases left with
    | nil=>rfl
    | cons a r =>
     have:=List.getElem?_eq_none_iff.mp hx
     have:=Nat.mod_lt (next k) (show 0 < (a :: r).length by simp)
     omega
   subst e
   rw [List.append_nil]
  | some x =>
   obtain ⟨hi,ex⟩:=List.getElem?_eq_some_iff.mp hx
   refine (Bq next fuel (k+1) (left.eraseIdx (next k % left.length)) (out.push x) ?_).trans ?_
   ·rw [List.length_eraseIdx_of_lt hi]
    omega
   ·rw [Array.toList_push,List.append_assoc]
    refine List.Perm.append_left _ ?_
    rw [← ex]
    exact wG hi
theorem Am {α:Type} (next:Nat→Nat) (xs:Array α):(pickOrder next xs).toList.Perm xs.toList:=by
 have:=Bq next xs.size 0 xs.toList #[] (by simp)
 simpa [pickOrder] using this
section
variable {prog:Program} {w:World} {K:Type} [DecidableEq K] {knd:KeyKind prog w K} {A:Around} {E:Value→Shared→Prop} {s:Shared}
end
end SA
namespace SI
open PySem PySem.Spec PyProof.Rows PySem.SetTable
theorem bf:Slot "set_iterator" "__next__" "set_iterator.__next__" :=
 .of (owner:="set_iterator") (n:="__next__") (by rw [typeLookup_type,builtinLookup_eq_fast]; kernel_rfl) (by decide +kernel) (by decide +kernel) (by decide +kernel)
  (by first | exact .inl (by decide +kernel) | exact .inr (by decide +kernel)) (by rw [isSubtype_type]; kernel_rfl)
theorem cN:entryFor table "set_iterator.__next__" = some Builtin.«set_iterator.__next__»:=entryFor_of_tree (by kernel_rfl)
theorem dW:Manifest.owners.lookup (String.ofList ['r', 'o', 't', 'a', 'r', 'e', 't', 'i', '_', 't', 'e', 's'].reverse)=some Manifest.sig_set_iterator:=by kernel_rfl
theorem cI (a:Value):argsOk "set_iterator.__next__" ⟨[a],[]⟩:=by
 unfold argsOk; rw [signature?_of (id:="set_iterator.__next__") (n:=['_', '_', 't', 'x', 'e', 'n', '_', '_']) (o:=['r', 'o', 't', 'a', 'r', 'e', 't', 'i', '_', 't', 'e', 's']) (by kernel_rfl) dW]; kernel_rfl
theorem mJ:entryFor table "set.__iter__" = some Builtin.«frozenset.__iter__»:=entryFor_alias (id':="frozenset.__iter__") (by kernel_rfl) rfl (by decide +kernel) (by kernel_rfl)
def itO (slot i:Nat) (S:Addr) (n ep:Nat):Obj:={ cls:=.type "set_iterator",data:=.fields #[.int slot 0,.int i 0,.ref S,.int n 0,.int ep 0] }
section
variable {prog:Program} {w:World} {A:Around} {E:Value→Shared→Prop} {s:Shared} {I S:Addr} {o:Obj} {es:Array (Int × Value)} {ep slot i:Nat} {t:SetTable}
def byT (w:World):Bool:=w.params.followText "set-order"
def ord (w:World) (S:Addr) (es:Array (Int × Value)) (ep:Nat):Array (Int × Value):=if byT w=true then pickOrder (w.params.setOrder S ep) es else es
theorem Dj {Q:Value→Shared→Prop} (ho:s.heap.get? S=some o) (hc:o.cls=.type "set") (hd:o.data=.set es ep t) (hf:t.fits es.size=true) (hpl:t.plain=true)
  (q:Q (.ref s.heap.objs.size) { s with heap:=s.heap.push (itO 0 0 S es.size ep) }):wpAny (model prog w) A (pyIter (.ref S)) Q E s:=by
 have ty:s.TypeIs (.ref S) "set":=⟨o,ho,hc⟩
 refine wpAny_pyIter_slot ty PySem.F.slot_set_iter (wpAny_call_entry PySem.F.slot_set_iter ty mJ ?_ (PySem.F.args_set_iter_1 _))
 unfold Builtin.«frozenset.__iter__» Builtin.Frozenset.slot0
 refine wpAny_bind (wpAny_bind (wpAny_pure (wpAny_pure ?_)))
 unfold Builtin.Frozenset.sizeOf
 refine wpAny_bind (wpAny_bind (wpAny_setEntries_of ho hd hf (wpAny_pure ?_)))
 unfold setDrawn setsByText
 refine wpAny_bind (wpAny_bind (wpAny_setState_of ho hd hf (wpAny_bind (wpAny_bind (wpAny_askSetting (wpAny_pure (wpAny_pure ?_)))))))
 refine wpAny_ite_split (fun hb=>absurd (show (_ && (!t.plain && decide (es.size > 1)))=true from hb) (by rw [hpl]; simp)) fun _=>wpAny_bind (wpAny_pure ?_)
 unfold setEpoch
 refine wpAny_bind (wpAny_bind (wpAny_setState_of ho hd hf (wpAny_pure ?_)))
 unfold newFields
 refine wpAny_bind (wpAny_newObj_type (wpAny_pure ⟨_,rfl, "set_iterator",_,⟨_,Heap.get?_push_size _ rfl,rfl⟩,bf.lookup,?_⟩) (by simp [sizeOk,sizeLine_eq]))
 exact q
theorem qG {Q:Option (Value × Nat)→Shared→Prop} (ho:s.heap.get? S=some o) (hd:o.data=.set es ep t) (hf:t.fits es.size=true) (hsz:t.place.size=es.size) (hup:ST.Up t.place) (hpl:t.plain=true)
  (hbl:byT w=false→t.led=true∧below t.place slot=i)
  (q1:∀ e slot',(ord w S es ep)[i]?=some e→(byT w=false→below t.place slot'=i+1)→Q (some (e.2,slot')) s)
  (q2:(ord w S es ep)[i]?=none→Q none s):wpAny (model prog w) A (setNext S slot i ep) Q E s:=by
 unfold setNext setsByText
 refine wpAny_bind (wpAny_setState_of ho hd hf (wpAny_bind (wpAny_bind (wpAny_askSetting (wpAny_pure ?_)))))
 refine wpAny_ite_split (fun hb=>?_) fun hb=>?_
 ·have hb:byT w=true:=hb
  rw [if_neg (by simp)]
  refine wpAny_bind ?_
  unfold setWalk setsByText
  refine wpAny_bind (wpAny_setState_of ho hd hf (wpAny_bind (wpAny_bind (wpAny_askSetting (wpAny_pure ?_)))))
  refine wpAny_ite_split (fun _=>?_) fun hn=>absurd hb hn
  refine wpAny_bind (wpAny_askSetting (wpAny_pure (wpAny_pure ?_)))
  have e:ord w S es ep=pickOrder (w.params.setOrder S ep) es:=by unfold ord; rw [if_pos hb]
  show Q (Option.map (fun e=>(e.2,slot)) (pickOrder (w.params.setOrder S ep) es)[i]?) s
  rw [← e]
  cases hx:(ord w S es ep)[i]? with
  | none=>exact q2 hx
  | some x=>exact q1 x slot hx fun z=>absurd (hb.symm.trans z) (by decide)
 ·have hb:byT w=false:=by
   cases z:byT w with
   | false=>rfl
   | true=>exact absurd z hb
  obtain ⟨hl,hbl⟩:=hbl hb
  refine wpAny_ite_split (fun hb=>absurd (show (!t.plain && decide (es.size > 1))=true from hb) (by rw [hpl]; simp)) fun _=>?_
  refine wpAny_bind ?_
  show wpAny _ _ (if (!t.led && !es.isEmpty)=true then _ else _) _ _ _
  rw [if_neg (by rw [hl]; simp)]
  refine wpAny_pure ?_
  dsimp only
  rw [hbl]
  have e:ord w S es ep=es:=by unfold ord; rw [if_neg (by rw [hb]; decide)]
  rw [e] at q1 q2
  cases hx:es[i]? with
  | none=>exact wpAny_pure (q2 hx)
  | some x =>
   have hi:i < es.size:=(Array.getElem?_eq_some_iff.mp hx).1
   have hp:t.place[i]?=some (t.place[i]'(by omega)):=Array.getElem?_eq_getElem (by omega)
   rw [hp]
   exact wpAny_pure (q1 x _ hx fun _=>ST.wC hup hp)
theorem Dz {Q:Option Value→Shared→Prop} (ti:s.heap.get? I=some (itO slot i S es.size ep)) (ho:s.heap.get? S=some o) (hd:o.data=.set es ep t) (hf:t.fits es.size=true) (hsz:t.place.size=es.size) (hup:ST.Up t.place) (hpl:t.plain=true)
  (hbl:byT w=false→t.led=true∧below t.place slot=i) (hi:(ord w S es ep)[i]?≠none)
  (q:∀ g e slot',(ord w S es ep)[i]?=some e→g.get? I=some (itO slot' (i+1) S es.size ep)→Heap.SameBut I s.heap g→(byT w=false→below t.place slot'=i+1)→Q (some e.2) { s with heap:=g }):wpAny (model prog w) A (pyNext (.ref I)) Q E s:=by
 have ty:s.TypeIs (.ref I) "set_iterator":=⟨_,ti,rfl⟩
 unfold pyNext
 refine wpAny_bind (wpAny_attempt (wpAny_callSpecial?_slot (name:=Str.ofString "__next__") ty bf (wpAny_call_entry bf ty cN ?_ (cI _))))
 unfold Builtin.«set_iterator.__next__»
 refine wpAny_bind (wpAny_pure (wpAny_bind (wpAny_fieldsOf ti rfl ?_)))
 show wpAny _ _ (setEntries S >>= _) _ _ _
 refine wpAny_bind (wpAny_setEntries_of ho hd hf ?_)
 rw [if_neg (by simp)]
 dsimp only
 rw [Int.toNat_natCast,Int.toNat_natCast,Int.toNat_natCast]
 refine wpAny_bind (qG ho hd hf hsz hup hpl hbl (fun e slot' he hs=>?_) fun z=>absurd z hi)
 dsimp only
 refine wpAny_bind (wpAny_setField_rec ti (by simp) fun g1 f1 b1=>?_)
 replace f1:g1.get? I=some (itO slot' i S es.size ep):=f1
 refine wpAny_bind (wpAny_setField_rec f1 (by simp) fun g2 f2 b2=>?_)
 replace f2:g2.get? I=some (itO slot' (i+1) S es.size ep):=by
  have z:((i+1:Nat):Int)=(i:Int)+1:=by omega
  unfold itO; rw [z]; simpa [rawInt] using f2
 replace b1:Heap.SameBut I s.heap g1:=b1
 replace b2:Heap.SameBut I g1 g2:=b2
 exact wpAny_pure ⟨_,rfl,wpAny_pure (q g2 e slot' he f2 (b1.trans b2) hs)⟩
theorem Ib {Q:Option Value→Shared→Prop} (hh:A.handled=none) (ti:s.heap.get? I=some (itO slot i S es.size ep)) (ho:s.heap.get? S=some o) (hd:o.data=.set es ep t) (hf:t.fits es.size=true) (hsz:t.place.size=es.size) (hup:ST.Up t.place) (hpl:t.plain=true)
  (hbl:byT w=false→t.led=true∧below t.place slot=i) (hi:(ord w S es ep)[i]?=none)
  (q:∀ g,Heap.ExtBut I s.heap g→Q none { s with heap:=g }):wpAny (model prog w) A (pyNext (.ref I)) Q E s:=by
 have ty:s.TypeIs (.ref I) "set_iterator":=⟨_,ti,rfl⟩
 unfold pyNext
 refine wpAny_bind (wpAny_attempt (wpAny_callSpecial?_slot (name:=Str.ofString "__next__") ty bf (wpAny_call_entry bf ty cN ?_ (cI _))))
 unfold Builtin.«set_iterator.__next__»
 refine wpAny_bind (wpAny_pure (wpAny_bind (wpAny_fieldsOf ti rfl ?_)))
 show wpAny _ _ (setEntries S >>= _) _ _ _
 refine wpAny_bind (wpAny_setEntries_of ho hd hf ?_)
 rw [if_neg (by simp)]
 dsimp only
 rw [Int.toNat_natCast,Int.toNat_natCast,Int.toNat_natCast]
 refine wpAny_bind (qG ho hd hf hsz hup hpl hbl (fun e slot' he hs=>absurd (he.symm.trans hi) (by simp)) fun _=>?_)
 dsimp only
 refine wpAny_bind (wpAny_setField ti rfl (by simp) ?_)
 refine wpAny_bind ?_
 simp only [newExc,newTuple]
 refine wpAny_bind (wpAny_newObj_type ?_ (by size_fits)); refine wpAny_bind (m:=firstArgMember _ _) (wpAny_of_eq (a:=Value.none) (by first | rfl | (simp only [firstArgMember]; rfl)) ?_)
 refine wpAny_newObj_type ?_ (by size_fits)
 simp only [raiseNew]
 refine wpAny_bind (wpAny_handled ?_); rw [show A.in1.handled=none from hh]
 refine wpAny_bind (wpAny_pure (wpAny_throw ?_))
 refine wpAny_bind (wpAny_isInstance (T:="StopIteration") (b:=true) ⟨_,Heap.get?_push_size _ rfl,rfl⟩ isSubtype_stop ?_)
 exact wpAny_pure (q _ (((Heap.SameBut.update ..).extBut.push _).push _))
end
end SI
namespace SI
open PySem PySem.Spec PyProof.Rows PySem.SetTable
theorem cR:Slot "set_iterator" "__iter__" "set_iterator.__iter__" :=
 .of (owner:="set_iterator") (n:="__iter__") (by rw [typeLookup_type,builtinLookup_eq_fast]; kernel_rfl) (by decide +kernel) (by decide +kernel) (by decide +kernel)
  (by first | exact .inl (by decide +kernel) | exact .inr (by decide +kernel)) (by rw [isSubtype_type]; kernel_rfl)
theorem eZ:entryFor table "set_iterator.__iter__" = some Builtin.«dict_keyiterator.__iter__»:=entryFor_alias (id':="dict_keyiterator.__iter__") (by kernel_rfl) rfl (by decide +kernel) (by kernel_rfl)
theorem eG (a:Value):argsOk "set_iterator.__iter__" ⟨[a],[]⟩:=by
 unfold argsOk; rw [signature?_of (id:="set_iterator.__iter__") (n:=['_', '_', 'r', 'e', 't', 'i', '_', '_']) (o:=['r', 'o', 't', 'a', 'r', 'e', 't', 'i', '_', 't', 'e', 's']) (by kernel_rfl) dW]; kernel_rfl
theorem w6:typeLookup (.type "set") "__len__" = pure (some (.builtin "set.__len__")):=by rw [typeLookup_type,builtinLookup_eq_fast]; kernel_rfl
section
variable {prog:Program} {w:World} {A:Around} {E:Value→Shared→Prop} {s:Shared} {I S:Addr} {o:Obj} {es:Array (Int × Value)} {ep slot i:Nat} {t:SetTable}
theorem uL:(ord w S es ep).toList.Perm es.toList:=by
 unfold ord
 split
 ·exact SA.Am _ _
 ·exact List.Perm.refl _
theorem oO:(ord w S es ep).size=es.size:=by
 have:=(uL (w:=w) (S:=S) (es:=es) (ep:=ep)).length_eq
 rw [Array.length_toList,Array.length_toList] at this
 exact this
def StS (w:World) (I S:Addr) (o:Obj) (es:Array (Int × Value)) (ep:Nat) (t:SetTable) (i:Nat) (s:Shared):Prop :=
 ∃ slot,s.heap.get? I=some (itO slot i S es.size ep)∧s.heap.get? S=some o∧(byT w=false→below t.place slot=i)
theorem walks (hh:A.handled=none) (hIS:S≠I) (hd:o.data=.set es ep t) (hf:t.fits es.size=true) (hsz:t.place.size=es.size) (hup:ST.Up t.place) (hpl:t.plain=true) (hld:byT w=false→t.led=true) :
  WalksS prog w A I [I,S] [I] (fun a b=>b=a) es.size (fun i v=>∃ e,(ord w S es ep)[i]?=some e∧v=e.2) (StS w I S o es ep t) where
 sub:=fun b hb=>by
  rcases List.mem_singleton.mp hb with rfl
  exact List.mem_cons_self
 grefl:=fun _=>rfl
 gtrans:=fun _ _ _ h1 h2=>h2.trans h1
 frame:=fun i s h' tk ⟨slot,h1,h2,h3⟩ _ hk=>⟨slot,hk I List.mem_cons_self _ h1,hk S (List.mem_cons_of_mem _ List.mem_cons_self) _ h2,h3⟩
 item:=fun i s Q E hi ⟨slot,h1,h2,h3⟩ hQ=>by
  refine Dz h1 h2 hd hf hsz hup hpl (fun z=>⟨hld z,h3 z⟩) ?_ fun g e slot' he hg hs hb=>?_
  ·rw [Array.getElem?_eq_getElem (by rw [oO]; exact hi)]
   exact fun z=>nomatch z
  ·refine hQ _ _ ⟨e,he,rfl⟩ ⟨slot',hg,hs.extBut S o hIS h2,hb⟩ ⟨fun b u hb e=>hs.extBut b u (fun z=>hb (by rw [z]; exact List.mem_cons_self)) e,rfl,rfl,rfl,Nat.le_refl _⟩
 done:=fun s Q E ⟨slot,h1,h2,h3⟩ hQ=>by
  refine Ib hh h1 h2 hd hf hsz hup hpl (fun z=>⟨hld z,h3 z⟩) (Array.getElem?_eq_none (by rw [oO]; exact Nat.le_refl _)) fun g hg=>?_
  exact hQ _ ⟨fun b u hb e=>hg b u (fun z=>hb (by rw [z]; exact List.mem_cons_self)) e,rfl,rfl,rfl,Nat.le_refl _⟩
 self:=fun i s Q E ⟨slot,h1,_⟩ hQ=>by
  have hT:s.TypeIs (.ref I) "set_iterator":=⟨_,h1,rfl⟩
  refine wpAny_pyIter_slot hT cR (wpAny_call_entry cR hT eZ ?_ (eG _))
  show wpAny _ _ (ret (.ref I)) _ _ s
  exact wpAny_pure ⟨_,rfl, "set_iterator",_,hT,bf.lookup,hQ⟩
theorem hint {Q:Bool→Shared→Prop} (hT:s.TypeIs (.ref S) "set") (h:Q false s):wpAny (model prog w) A (Builtin.List.listLengthHint (.ref S)) Q E s:=by
 unfold Builtin.List.listLengthHint
 refine wpAny_bind (wpAny_specialOf hT w6 ?_)
 generalize hid:("set.__len__" : String)=id0
 wp_delta
 rw [show splitId id0=some ("set", "__len__") from by subst hid; decide +kernel]
 subst hid
 refine wpAny_bind (wpAny_isInstance (T:="set") (b:=true) hT (by rw [isSubtype_type]; kernel_rfl) ?_)
 refine wpAny_ite_split (fun hab=>absurd hab (by decide)) (fun _=>?_)
 refine wpAny_ite_split (fun _=>?_) (fun hab=>absurd (by decide +kernel) hab)
 refine wpAny_bind (wpAny_typeOf hT ?_)
 exact wpAny_pure h
theorem rU {Q:List Value→Shared→Prop} (hh:A.handled=none) (ho:s.heap.get? S=some o) (hc:o.cls=.type "set") (hd:o.data=.set es ep t) (hf:t.fits es.size=true) (hsz:t.place.size=es.size) (hup:ST.Up t.place) (hpl:t.plain=true) (hld:byT w=false→t.led=true) (hn:es.size≤sizeLine)
  (h:∀ (g:Heap) (tk:Nat),(∀ b u,s.heap.get? b=some u→g.get? b=some u)→Q ((ord w S es ep).toList.map (·.2)) { s with heap:=g,toks:=tk }):wpAny (model prog w) A (collect (.ref S)) Q E s:=by
 have hSs:S < s.heap.objs.size:=Heap.lt_size ho
 unfold collect
 refine wpAny_bind (wpAny_runValue (codeAny_builtin PySem.F.entry_proto_collect ?_))
 rw [Around.under_plainId PySem.F.plain_proto_collect _]
 show wpAny _ A.in1 (newList [] >>= fun l=>again (.builtin "list.__iadd__" ⟨[l,.ref S],[]⟩)) _ _ s
 refine wpAny_bind (wpAny_newObj_type ?_)
 refine wpAny_pure ⟨plainId_quiet PySem.F.plain_list_iadd _,codeAny_builtin PySem.F.entry_list_iadd ?_⟩
 rw [Around.under_plainId PySem.F.plain_list_iadd _]
 show wpAny _ A.in1 (Builtin.List.listExtendWith (.ref s.heap.objs.size) (.ref S) (.ref s.heap.objs.size)) _ _ _
 have hS₁:(s.heap.push { cls:=.type "list",data:=.seq ([]:List Value).toArray }).get? s.heap.objs.size=some { cls:=.type "list",data:=.seq ([]:List Value).toArray }:=Heap.get?_push_size _ rfl
 have ho₁:(s.heap.push { cls:=.type "list",data:=.seq ([]:List Value).toArray }).get? S=some o:=Heap.get?_push_of_some _ ho
 have keep₁:∀ b u,s.heap.get? b=some u→(s.heap.push { cls:=.type "list",data:=.seq ([]:List Value).toArray }).get? b=some u:=fun b u e=>Heap.get?_push_of_some _ e
 have hz₁:(s.heap.push { cls:=.type "list",data:=.seq ([]:List Value).toArray }).objs.size=s.heap.objs.size+1:=Heap.size_push ..
 generalize s.heap.push { cls:=.type "list",data:=.seq ([]:List Value).toArray }=h1 at hS₁ ho₁ keep₁ hz₁ ⊢
 unfold Builtin.List.listExtendWith
 refine wpAny_bind (wpAny_typeOf (T:="set") ⟨o,ho₁,hc⟩ ?_)
 have e1:Builtin.List.listSameRef (.ref s.heap.objs.size) (.ref S)=false:=by simp [Builtin.List.listSameRef]; exact Nat.ne_of_gt hSs
 have e2:(Value.type "set" == Value.type "list")=false:=by decide
 have e3:(Value.type "set" == Value.type "tuple")=false:=by decide
 simp only [e1,e2,e3,Bool.or_false,Bool.false_eq_true,if_false]
 refine wpAny_bind (Dj ho₁ hc hd hf hpl ?_)
 have hS₂:(h1.push (itO 0 0 S es.size ep)).get? s.heap.objs.size=some { cls:=.type "list",data:=.seq ([]:List Value).toArray }:=Heap.get?_push_of_some _ hS₁
 have ho₂:(h1.push (itO 0 0 S es.size ep)).get? S=some o:=Heap.get?_push_of_some _ ho₁
 have hI₂:(h1.push (itO 0 0 S es.size ep)).get? h1.objs.size=some (itO 0 0 S es.size ep):=Heap.get?_push_size _ rfl
 have keep₂:∀ b u,s.heap.get? b=some u→(h1.push (itO 0 0 S es.size ep)).get? b=some u:=fun b u e=>Heap.get?_push_of_some _ (keep₁ b u e)
 dsimp only
 generalize h1.push (itO 0 0 S es.size ep)=h2 at hS₂ ho₂ hI₂ keep₂ ⊢
 refine wpAny_bind (wpAny_holding (hint ⟨o,ho₂,hc⟩ ?_))
 have W:=walks (prog:=prog) (w:=w) (A:=A.in1) (I:=h1.objs.size) (S:=S) (o:=o) (es:=es) (ep:=ep) (t:=t) hh (by rw [hz₁]; exact Nat.ne_of_lt (Nat.lt_succ_of_lt hSs)) hd hf hsz hup hpl hld
 have key:∀ (g:Heap) (c₁ tk:Nat),(∀ b u,b≠s.heap.objs.size→h2.get? b=some u→g.get? b=some u)→g.get? s.heap.objs.size=some { cls:=.type "list",data:=.seq #[] c₁ }→codeAny (model prog w) A (.builtin "list.extend.loop" ⟨[.ref s.heap.objs.size,.ref h1.objs.size,.ref s.heap.objs.size],[]⟩) (fun r s'=>∃ (g':Heap) (tk':Nat) (acc:Array Value) (c:Nat),r=.ok (.ret (.ref s.heap.objs.size))∧s'={ s with heap:=g',toks:=tk' }∧(∀ b u,s.heap.get? b=some u→g'.get? b=some u)∧g'.get? s.heap.objs.size=some { cls:=.type "list",data:=.seq acc c }∧acc.toList=(ord w S es ep).toList.map (·.2)) { s with heap:=g,toks:=tk }:=fun g c₁ tk hk hS₃=>by
  refine codeAny_extend_loopS W hn s.heap.objs.size ?_ _ es.size 0 _ #[] c₁ rfl (Nat.zero_le _) ⟨0,hk _ _ (by rw [hz₁]; exact Nat.ne_of_gt (Nat.lt_succ_self _)) hI₂,hk _ _ (Nat.ne_of_lt hSs) ho₂,fun _=>ST.wU hup⟩ hS₃ (ItemsOf.nil _) fun s' acc c' hm hS' hacc=>?_
  ·rw [hz₁]
   simp only [List.mem_cons,List.mem_singleton,List.not_mem_nil,or_false,not_or]
   exact ⟨Nat.ne_of_lt (Nat.lt_succ_self _),Nat.ne_of_gt hSs⟩
  ·obtain ⟨g',gg,d',tk',os'⟩:=s'
   have e1:gg=s.gens:=hm.gens
   have e2:d'=s.drawn:=hm.drawn
   have e3:os'=s.os:=hm.os
   subst e1
   subst e2
   subst e3
   refine ⟨g',tk',acc,c',rfl,rfl,fun b u e=>?_,hS',?_⟩
   ·have hb:=Heap.lt_size e
    refine hm.heap b u ?_ (hk b u (Nat.ne_of_lt hb) (keep₂ b u e))
    rw [hz₁]
    simp only [List.mem_cons,List.mem_singleton,List.not_mem_nil,or_false,not_or]
    exact ⟨Nat.ne_of_lt hb,Nat.ne_of_lt (Nat.lt_succ_of_lt hb)⟩
   ·refine List.ext_getElem? fun j=>?_
    rw [List.getElem?_map,Array.getElem?_toList,Array.getElem?_toList]
    rcases Nat.lt_or_ge j es.size with hj | hj
    ·obtain ⟨e,he,hv⟩:=hacc.2 j _ (Array.getElem?_eq_getElem (by rw [hacc.1]; exact hj))
     rw [he,Array.getElem?_eq_getElem (by rw [hacc.1]; exact hj),hv]
     rfl
    ·rw [Array.getElem?_eq_none (by rw [hacc.1]; exact hj),Array.getElem?_eq_none (by rw [oO]; exact hj)]
     rfl
 have fin:∀ (r:Result) (s':Shared),(∃ (g':Heap) (tk':Nat) (acc:Array Value) (c:Nat),r=.ok (.ret (.ref s.heap.objs.size))∧s'={ s with heap:=g',toks:=tk' }∧(∀ b u,s.heap.get? b=some u→g'.get? b=some u)∧g'.get? s.heap.objs.size=some { cls:=.type "list",data:=.seq acc c }∧acc.toList=(ord w S es ep).toList.map (·.2))→∃ (g':Heap) (tk':Nat) (acc:Array Value) (c:Nat),r=.ok (.ret (.ref s.heap.objs.size))∧s'={ s with heap:=g',toks:=tk' }∧g'.get? s.heap.objs.size=some { cls:=.type "list",data:=.seq acc c }∧Q acc.toList { s with heap:=g',toks:=tk' }:=fun r s' ⟨g',tk',acc,c,a1,a2,a3,a4,a5⟩=>⟨g',tk',acc,c,a1,a2,a4,by rw [a5]; exact h g' tk' a3⟩
 refine wpAny_ite_split (fun _=>?_) (fun _=>wpAny_pure ⟨plainId_quiet PySem.F.plain_extend_loop _,codeAny_mono (key _ 0 _ (fun b u _ e=>e) hS₂) fun r s' z=>?_⟩)
 ·refine wpAny_bind (wpAny_rule ?_)
  refine wpAny_bind ?_
  show wpAny _ A.in1 (updateSeq s.heap.objs.size (·.push .none) >>= fun _=>updateSeq s.heap.objs.size (·.pop)) _ _ _
  refine wpAny_bind (wpAny_updateSeq hS₂ rfl ?_)
  have hS₃:=Heap.get?_update_self (Obj.mapSeq (·.push Value.none)) hS₂ rfl
  refine wpAny_updateSeq (hz:=by seq_fits) hS₃ rfl ?_
  have hS₄:=Heap.get?_update_self (Obj.mapSeq (·.pop)) hS₃ rfl
  refine wpAny_pure ⟨plainId_quiet PySem.F.plain_extend_loop _,codeAny_mono (key _ _ _ (fun b u hb e=>?_) hS₄) fun r s' z=>?_⟩
  ·exact (Heap.get?_update_other _ _ (Ne.symm hb)).trans ((Heap.get?_update_other _ _ (Ne.symm hb)).trans e)
  ·obtain ⟨g',tk',acc,c,rfl,rfl,a4,q⟩:=fin r s' z
   show wpAny _ A (load s.heap.objs.size >>= _) _ _ _
   exact wpAny_bind (wpAny_load a4 (wpAny_pure q))
 ·obtain ⟨g',tk',acc,c,rfl,rfl,a4,q⟩:=fin r s' z
  show wpAny _ A (load s.heap.objs.size >>= _) _ _ _
  exact wpAny_bind (wpAny_load a4 (wpAny_pure q))
end
end SI
namespace L2
open PySem PySem.Spec PyProof.Rows
theorem vN {H:Hp}:∀ {p:List Int} {vs:List V},bI H vs (p.map D.int)→vs=p.map V.int
 | [],[],_=>rfl
 | i :: p,v :: vs,h=>by
  obtain ⟨h1,h2⟩:=h
  rw [show v=V.int i from h1,vN h2]
  rfl
 | [],_ :: _,h=>h.elim
 | _ :: _,[],h=>h.elim
section
variable {X:Cx} {pins:List (Addr × Obj)} {σ:St} {H:Hp} {s:Shared}
end
end L2
namespace ST
open PySem PySem.SetTable
def LR (p:Int × Tok):Int × Value:=(hashInt p.1,.int p.1 p.2)
structure uY (w:World) (h:Heap) (S:Addr) (ns:List Int):Prop where
 ex:∃ (o:Obj) (es:Array (Int × Value)) (ep:Nat) (t:SetTable) (kts:List (Int × Tok)),h.get? S=some o∧o.ExactSet∧o.data=.set es ep t∧TOk t es.size∧es.size * 5 < t.mask * 3∧t.plain=true∧(w.params.followText "set-order" = true∨t.led=true)∧t.mask≤9000∧(kts.map (·.1)).Perm ns∧es.toList=kts.map LR
def BP (ns:List Int) (k:Int):List Int:=if k∈ns then ns else k :: ns
theorem Ni {t:SetTable} {es:Array (Int × Value)} {h:Int} {x:Value} (hT:TOk t es.size) (hrm:es.size * 5 < t.mask * 3):∃ j,t.slot j=.empty∧layNew t es h x=(insertAt es (t.put j).2 (h,x),(t.put j).1,false,false):=by
 obtain ⟨c1,c2,c3⟩:=uO t h
 obtain ⟨d,hd1,hD⟩:=hT.dist c1 c2
 have hfr:t.freeSlot h=some ((adv t d (t.probeStart h)).j,false):=by
  unfold SetTable.freeSlot
  have:t.probe (fun _=>h+1) h (t.probeStart h)=some (.empty (adv t d (t.probeStart h)).j none):=by
   unfold SetTable.probe
   rcases Di hT.d (hashAt:=fun _=>h+1) (h:=h) d (10 * turns t.mask) (t.probeStart h) hD (by unfold turns; omega) with z | ⟨e,i,_,_,z,_⟩
   ·rw [z,c3]
   ·have z:h+1=h:=z
    omega
  rw [this]
  rfl
 refine ⟨_,hD.1,?_⟩
 unfold layNew
 rw [hfr]
 dsimp only
 have hf:(t.put (adv t d (t.probeStart h)).j).1.fits (insertAt es (t.put (adv t d (t.probeStart h)).j).2 (h,x)).size=true:=by
  unfold SetTable.fits SetTable.fill
  have e1:(t.put (adv t d (t.probeStart h)).j).1.dummies = #[]:=by
   show (if SetTable.has t.dummies _ then _ else t.dummies) = #[]
   rw [hT.d]
   rfl
  have e2:(t.put (adv t d (t.probeStart h)).j).1.place.size=es.size+1:=by
   show (SetTable.insertAt t.place _ _).size=_
   rw [fJ,hT.sz]
  have e3:(t.put (adv t d (t.probeStart h)).j).1.mask=t.mask:=rfl
  rw [e1,e2,e3,fJ]
  have:=hT.o
  simp
  omega
 unfold SetTable.orStandIn
 rw [if_pos hf,hf]
 rfl
section
variable {prog:Program} {w:World} {A:Around} {E:Value→Shared→Prop} {s:Shared}
theorem add_int {S:Addr} {ns:List Int} {k:Int} {tk:Tok} {Q:Bool→Shared→Prop} (hS:uY w s.heap S ns) (hz:ns.length+1≤1002)
  (h:∀ (b:Bool) (h':Heap),Heap.SameBut S s.heap h'→uY w h' S (BP ns k)→Q b { s with heap:=h' }):wpAny (model prog w) A (setAddHashed S (.int k tk) (hashInt k)) Q E s:=by
 obtain ⟨o,es,ep,t,kts,ho,hex,hd,hT,hrm,hpl,hld,hmk,hp,hE⟩:=hS.ex
 have hsz:es.size=ns.length:=by
  have:=congrArg List.length hE
  rw [Array.length_toList,List.length_map] at this
  have h2:=hp.length_eq
  rw [List.length_map] at h2
  omega
 have hf:t.fits es.size=true:=by
  unfold SetTable.fits SetTable.fill
  rw [hT.d,hT.sz]
  have:=hT.room
  simp
  exact this
 have hel:ElemsOf (intKind prog w) es.toList:=fun e he=>by
  rw [hE] at he
  obtain ⟨p,_,rfl⟩:=List.mem_map.mp he
  exact ⟨⟨p.1,by show Value.isInt p.1 (.int p.1 p.2)=true; simp [Value.isInt],rfl⟩,rfl⟩
 unfold setAddHashed setAddHashedIn
 refine wpAny_holding (wpAny_bind (wpAny_setState_of ho hd hf ?_))
 dsimp only
 rw [byScan_of (knd:=intKind prog w) (x:=.int k tk) rfl (by unfold scanBound; omega) hel]
 simp only [↓reduceIte]
 unfold setAddByScan
 refine wpAny_bind ?_
 refine wpAny_bind (wpAny_rule ?_)
 refine wpAny_bind (wpAny_setScan_of (knd:=intKind prog w) (k:=k) (by show Value.isInt k (.int k tk)=true; simp [Value.isInt]) ho hd hf hel ?_)
 have hmem:(∃ e∈es.toList,(intKind prog w).is k e.2=true)↔k∈ns:=by
  constructor
  ·rintro ⟨e,he,z⟩
   rw [hE] at he
   obtain ⟨p,hpm,rfl⟩:=List.mem_map.mp he
   have z:Value.isInt k (.int p.1 p.2)=true:=z
   have:p.1=k:=by
    simp [Value.isInt] at z
    first | exact z | exact z.symm
   exact hp.mem_iff.mp (List.mem_map.mpr ⟨p,hpm,this⟩)
  ·intro z
   obtain ⟨p,hpm,e⟩:=List.mem_map.mp (hp.mem_iff.mpr z)
   refine ⟨LR p,by rw [hE]; exact List.mem_map_of_mem hpm,?_⟩
   show Value.isInt k (.int p.1 p.2)=true
   simp [Value.isInt,e]
 cases hr:List.findIdx? (fun e=>(intKind prog w).is k e.2) es.toList with
 | some j =>
  dsimp only
  obtain ⟨hj,hpj,_⟩:=List.findIdx?_eq_some_iff_getElem.mp hr
  have hk:k∈ns:=hmem.mp ⟨_,List.getElem_mem hj,hpj⟩
  refine wpAny_pure (wpAny_pure ?_)
  have e:s={ s with heap:=s.heap }:=by cases s; rfl
  have:=h false s.heap (Heap.SameBut.refl S s.heap) (by unfold BP; rw [if_pos hk]; exact hS)
  rw [e]
  exact this
 | none =>
  dsimp only
  have hk:k ∉ ns:=fun z=>by
   obtain ⟨e,he,z⟩:=hmem.mpr z
   have:=List.findIdx?_eq_none_iff.mp hr e he
   rw [z] at this
   exact Bool.noConfusion this
  have hadd:BP ns k=k :: ns:=if_neg hk
  obtain ⟨j,hje,hL⟩:=Ni (h:=hashInt k) (x:=.int k tk) hT hrm
  rw [hL]
  dsimp only
  have hput:(t.put j).1.mask=t.mask∧(t.put j).1.dummies = #[]∧(t.put j).1.place.size=es.size+1∧(t.put j).1.plain=true∧(t.put j).1.led=t.led∧Up (t.put j).1.place:=by
   refine ⟨rfl,?_,?_,hpl,rfl,yp hT.up (wz hje)⟩
   ·show (if SetTable.has t.dummies j then _ else t.dummies) = #[]
    rw [hT.d]
    rfl
   ·show (SetTable.insertAt t.place _ j).size=_
    rw [fJ,hT.sz]
  obtain ⟨m1,m2,m3,m4,m5,m6⟩:=hput
  have hs1:=fJ es (t.put j).2 (hashInt k,Value.int k tk)
  have hp1:=lU es (t.put j).2 (hashInt k,Value.int k tk)
  generalize SetTable.insertAt es (t.put j).2 (hashInt k,Value.int k tk)=es1 at hs1 hp1 ⊢
  generalize (t.put j).1=t1 at m1 m2 m3 m4 m5 m6 ⊢
  have hln:es1.size≤sizeLine:=by rw [sizeLine_eq]; omega
  refine wpAny_bind (wpAny_pure ?_)
  rw [if_pos m4]
  refine wpAny_bind (wpAny_pure ?_)
  simp only [↓reduceIte]
  refine wpAny_bind (wpAny_storeSet_of ho hd ?_ hln)
  have hg1:(s.heap.update S (Obj.putSet es1 t1)).get? S=some { o with data:=.set es1 (ep+1) t1 }:=by
   have:=Heap.get?_update_self (Obj.putSet es1 t1) ho (by rw [putSet_of es1 t1 hd]; rfl)
   rw [putSet_of es1 t1 hd] at this
   exact this
  have hsb1:=Heap.SameBut.update s.heap S (Obj.putSet es1 t1)
  have hent:∀ (es2:Array (Int × Value)),es2.toList.Perm es1.toList→∃ kts2:List (Int × Tok),(kts2.map (·.1)).Perm (BP ns k)∧es2.toList=kts2.map LR:=fun es2 hpe=>by
   have hpm:es2.toList.Perm (((k,tk) :: kts).map LR):=by
    refine (hpe.trans hp1).trans ?_
    rw [List.map_cons,hE]
    exact List.Perm.refl _
   obtain ⟨kas2,k1,k2⟩:=tX hpm.symm rfl
   refine ⟨kas2,(k1.map (·.1)).trans ?_,k2⟩
   rw [hadd,List.map_cons]
   exact hp.cons _
  have hodd:t1.mask % 2=1:=by rw [m1]; exact hT.o
  have hpow:∃ k,t1.mask+1=2 ^ k:=by rw [m1]; exact hT.k
  have hle:es1.size≤t1.mask:=by rw [m1,hs1]; have:=hT.o; omega
  have hfl:t1.fill=es1.size:=by
   unfold SetTable.fill
   rw [m2,m3,hs1]
   rfl
  by_cases htf:t1.tooFull=true
  ·rw [if_pos (by rw [htf]; rfl)]
   have hgr:SetTable.grown es1.size=es1.size * 4:=by
    unfold SetTable.grown
    rw [if_neg (by omega)]
   obtain ⟨t2,order,r1,r2,r3,r4,r5,r6,r7⟩:=xV (t:=t1) (hashes:=es1.map (·.1)) (wanted:=es1.size * 4) (by omega) (by rw [Array.size_map]; omega) (by omega)
   rw [Array.size_map] at r2 r3
   have hes2:(order.filterMap (es1[·]?)).toList.Perm es1.toList:=by
    rw [Array.toList_filterMap]
    refine (r3.filterMap _).trans ?_
    have:(List.range es1.size).filterMap (es1[·]?)=es1.toList:=PySem.W.krv_all es1
    rw [this]
   have hsz2:(order.filterMap (es1[·]?)).size=es1.size:=by
    have:=hes2.length_eq
    rw [Array.length_toList,Array.length_toList] at this
    exact this
   have hrl:relayAll t1 es1 (SetTable.grown es1.size)=(order.filterMap (es1[·]?),t2,false):=by
    unfold relayAll
    rw [hgr,r1]
    dsimp only
    have c1:coversAll order es1.size=true:=by
     unfold coversAll
     exact List.isPerm_iff.mpr r3
    have c2:t2.fits (order.filterMap (es1[·]?)).size=true:=by
     unfold SetTable.fits SetTable.fill
     rw [r2.d,r2.sz,hsz2]
     have:=r2.room
     simp
     exact this
    rw [if_pos (by rw [c1,c2]; rfl)]
   rw [hrl]
   dsimp only
   refine wpAny_bind (wpAny_pure ?_)
   generalize order.filterMap (es1[·]?)=es2 at hes2 hsz2
   refine wpAny_bind (wpAny_storeSet_of hg1 rfl ?_ (by rw [hsz2]; exact hln))
   have hg2:((s.heap.update S (Obj.putSet es1 t1)).update S (Obj.putSet es2 t2)).get? S=some { o with data:=.set es2 (ep+1+1) t2 }:=by
    have:=Heap.get?_update_self (Obj.putSet es2 t2) hg1 rfl
    exact this
   have hsb2:=hsb1.trans (Heap.SameBut.update _ S (Obj.putSet es2 t2))
   obtain ⟨kas2,k1,k2⟩:=hent es2 hes2
   refine wpAny_pure (wpAny_pure (h true _ hsb2 ⟨_,es2,_,t2,kas2,hg2,hex,rfl,by rw [hsz2]; exact r2,by rw [hsz2]; omega,by rw [r4]; exact m4,by rw [r5,m5]; exact hld,by omega,k1,k2⟩))
  ·rw [if_neg (by simpa using htf)]
   obtain ⟨kas2,k1,k2⟩:=hent es1 (List.Perm.refl _)
   have hr1:es1.size * 5 < t1.mask * 3:=by
    unfold SetTable.tooFull at htf
    rw [hfl] at htf
    simp at htf
    exact htf
   refine wpAny_pure (wpAny_pure (h true _ hsb1 ⟨_,es1,_,t1,kas2,hg1,hex,rfl,⟨hpow,m2,by rw [m3,hs1],hle,hodd,m6⟩,hr1,m4,by rw [m5]; exact hld,by rw [m1]; exact hmk,k1,k2⟩))
end
end ST
namespace SX
open PySem PySem.Spec PyProof.Rows
def rK (val:Nat→Int):Nat→List Int
 | 0=>[]
 | i+1=>ST.BP (rK val i) (val i)
theorem jW {val:Nat→Int}:∀ {i:Nat},(rK val i).length≤i
 | 0=>Nat.le_refl _
 | i+1=>by
  have:=jW (val:=val) (i:=i)
  show (ST.BP (rK val i) (val i)).length≤i+1
  unfold ST.BP
  split
  ·omega
  ·rw [List.length_cons]; omega
theorem pF {w:World} {h h':Heap} {S:Addr} {ns:List Int} (x:ST.uY w h S ns) (hS:∀ o,h.get? S=some o→h'.get? S=some o):ST.uY w h' S ns:=by
 obtain ⟨o,es,ep,t,kts,ho,r⟩:=x.ex
 exact ⟨o,es,ep,t,kts,hS o ho,r⟩
section
variable {prog:Program} {w:World} {A:Around} {R:Result→Shared→Prop} {I:Addr} {fp wr:List Addr} {G:Array GenState→Array GenState→Prop} {n:Nat} {P:Nat→Value→Prop} {St:Nat→Shared→Prop}
theorem KJ (W:WalksS prog w A.in1 I fp wr G n P St) (S:Addr) (nf:S ∉ fp) (val:Nat→Int) (hv:∀ i v,P i v→∃ t,v=.int (val i) t) (room:n+1≤1002) :
  ∀ (k i:Nat) (s:Shared),n - i=k→i≤n→St i s→ST.uY w s.heap S (rK val i)→(∀ s',Moved (S :: wr) G s s'→ST.uY w s'.heap S (rK val n)→R (.ok (.ret .none)) s') →
   codeAny (model prog w) A (.builtin "set.update.loop" ⟨[.ref S,.ref I],[]⟩) R s:=by
 have nw:S ∉ wr:=fun z=>nf (W.sub _ z)
 have sub:∀ b∈wr,b∈S :: wr:=fun b z=>List.mem_cons_of_mem _ z
 intro k
 induction k with
 | zero =>
  intro i s ek le st hS q
  have e:i=n:=by omega
  subst e
  refine codeAny_builtin F.entry_set_update_loop ?_
  rw [Around.under_plainId F.plain_set_update_loop _]
  show wpAny _ A.in1 (pyNext (.ref I) >>= _) _ _ _
  refine wpAny_bind (W.done s _ _ st fun s' mv=>?_)
  show wpAny _ A.in1 (ret Value.none) _ _ _
  exact wpAny_pure (q s' (mv.mono sub) (pF hS fun o e=>mv.heap S o nw e))
 | succ k ih =>
  intro i s ek le st hS q
  have lt:i < n:=by omega
  refine codeAny_builtin F.entry_set_update_loop ?_
  rw [Around.under_plainId F.plain_set_update_loop _]
  show wpAny _ A.in1 (pyNext (.ref I) >>= _) _ _ _
  refine wpAny_bind (W.item i s _ _ lt st fun v s' hP st' mv=>?_)
  obtain ⟨t,rfl⟩:=hv i v hP
  have hS':ST.uY w s'.heap S (rK val i):=pF hS fun o e=>mv.heap S o nw e
  show wpAny _ A.in1 (holding [.int (val i) t] (setAdd S (.int (val i) t)) >>= _) _ _ _
  refine wpAny_bind (wpAny_holding ?_)
  unfold setAdd
  refine wpAny_holding (wpAny_bind (wpAny_pyHash_int ?_))
  have hl:=jW (val:=val) (i:=i)
  refine ST.add_int hS' (by omega) fun b g sb hS2=>?_
  refine wpAny_pure ⟨plainId_quiet F.plain_set_update_loop _,ih (i+1) _ (by omega) lt (W.frame _ s' _ _ st' (by first | exact Nat.le_refl _ | exact Nat.le_add_right _ _) fun b hb o e=>?_) hS2 fun s'' mv2 hS''=>?_⟩
  ·rw [sb.2 b fun z=>nf (z ▸ hb)]
   exact e
  ·refine q s'' (Moved.trans W.gtrans ((mv.mono sub).then_heap (by first | exact Nat.le_refl _ | exact Nat.le_add_right _ _) fun b o hb e=>?_) mv2) hS''
   rw [sb.2 b fun z=>hb (by rw [z]; exact List.mem_cons_self)]
   exact e
end
theorem ou {prog:Program} {w:World} {A:Around} {E:Value→Shared→Prop} {s:Shared} {l:Addr} {items:Array Value} {val:Nat→Int} {Q:Value→Shared→Prop}
  (hd:A.handled=none) (tl:s.heap.IsList l items) (hv:∀ (i:Nat) (v:Value),items[i]?=some v→∃ t,v=Value.int (val i) t) (room:items.size+1≤1002)
  (q:∀ (g:Heap) (tk:Nat),ST.uY w g s.heap.objs.size (rK val items.size)→(∀ b o,b < s.heap.objs.size→s.heap.get? b=some o→g.get? b=some o)→Q (.ref s.heap.objs.size) { s with heap:=g,toks:=tk }) :
  wpAny (model prog w) A (call (.type "set") [.ref l]) Q E s:=by
 obtain ⟨c,tl',hmro⟩:=PySem.F.called_set.mro
 have hmade:=PySem.F.called_set.made
 have hsub:=PySem.F.called_set.sub
 refine wpAny_call (codeAny_of_tree ?_)
 show wpAny _ _ (callAny (.type "set") _) _ _ _
 refine wpAny_pure ⟨Code.quiet_builtin _ (by decide +kernel),codeAny_builtin PySem.F.entry_type_call ?_⟩
 rw [Around.under_plain (weight_type_call_type "set" [.ref l] []) rfl]
 have h1:=PySem.F.called_set.notType
 have h2:=PySem.F.called_set.canCreate
 have hct:=PySem.F.typeCall_set_1 (.ref l)
 repeat (any_goals (first | assumption | wp_step))
 refine codeAny_mono (iK (.ref l) (E:=E) (Q₁:=fun ob s₁=>∃ led:Bool,(w.params.followText "set-order" = true∨led=true)∧ob=.ref s.heap.objs.size∧s₁={ s with heap:=s.heap.push { cls:=.type "set",dict:=none,data:=.set #[] 0 (.fresh 0 0 led) } }) ⟨_,by cases w.params.followText "set-order" <;> simp,rfl,rfl⟩) fun r s₁ hr=>?_
 cases r with
 | error e=>exact hr
 | ok fl =>
  cases fl with
  | ret ob =>
   obtain ⟨led,hled,rfl,rfl⟩:=hr
   have eS:(s.heap.push { cls:=.type "set",dict:=none,data:=.set #[] 0 (.fresh 0 0 led) }).get? s.heap.objs.size=some { cls:=.type "set",dict:=none,data:=.set #[] 0 (.fresh 0 0 led) }:=Heap.get?_push_size _ rfl
   have tS:Shared.TypeIs { s with heap:=s.heap.push { cls:=.type "set",dict:=none,data:=.set #[] 0 (.fresh 0 0 led) } } (.ref s.heap.objs.size) "set":=⟨_,eS,rfl⟩
   have hli:=PySem.F.called_set.init.lookup
   have hbi:=PySem.F.called_set.init.bind (.ref s.heap.objs.size)
   repeat (any_goals (first | assumption | wp_step))
   refine codeAny_mono (codeAny_call_builtin (R:=wants (fun r s₂=>r=.none∧∃ g tk,s₂={ s with heap:=g,toks:=tk }∧ST.uY w g s.heap.objs.size (rK val items.size) ∧
     (∀ b o,b < s.heap.objs.size→s.heap.get? b=some o→g.get? b=some o)) E) PySem.F.called_set.init.plain PySem.F.entry_set_init (check_set_init_1 tS ?_)) fun r₂ s₂ hr₂=>?_
   ·obtain ⟨⟨oc,od,odt,osl⟩,eol,ecl,nl,edl⟩:=tl
    simp only at ecl edl
    subst ecl
    subst edl
    have eol':(s.heap.push { cls:=.type "set",dict:=none,data:=.set #[] 0 (.fresh 0 0 led) }).get? l=some { cls:=.type "list",dict:=od,data:=.seq items nl,slots:=osl }:=Heap.get?_push_of_some _ eol
    have hsls:=PySem.F.sub_list_set
    have hslf:=PySem.F.sub_list_frozenset
    have hne:(Value.type "list" == Value.type "dict")=false:=by decide
    have tl1:(s.heap.push { cls:=.type "set",dict:=none,data:=.set #[] 0 (.fresh 0 0 led) }).IsList l items:=⟨_,eol',rfl,nl,rfl⟩
    unfold Builtin.«set.__init__» noKeywords Builtin.Frozenset.updateFrom
    generalize hPI:pyIter=PI
    wp_walk
    subst hPI
    refine wpAny_pyIter_list tl1 (wpAny_bind (wpAny_runValue ?_))
    have lS:l < s.heap.objs.size:=Heap.lt_size eol
    have hd3:A.in1.in1.in1.handled=none:=by simp [hd]
    have neI:l≠(s.heap.push { cls:=.type "set",dict:=none,data:=.set #[] 0 (.fresh 0 0 led) }).objs.size:=by
     rw [Heap.size_push]
     exact Nat.ne_of_lt (Nat.lt_succ_of_lt lS)
    have nf:s.heap.objs.size ∉ [(s.heap.push { cls:=.type "set",dict:=none,data:=.set #[] 0 (.fresh 0 0 led) }).objs.size,l]:=by
     rw [Heap.size_push]
     simp only [List.mem_cons,List.mem_singleton,List.not_mem_nil,or_false,not_or]
     exact ⟨Nat.ne_of_lt (Nat.lt_succ_self _),Nat.ne_of_gt lS⟩
    refine KJ ((Walks.list hd3 _ l neI items).toS) s.heap.objs.size nf val hv room (items.size - 0) 0 _ (by omega) (Nat.zero_le _) ⟨⟨_,Heap.get?_push_size _ rfl,rfl,rfl⟩,tl1.push _⟩ ?hS0 ?hR
    case hS0 =>
     have eg:((s.heap.push { cls:=.type "set",dict:=none,data:=.set #[] 0 (.fresh 0 0 led) }).push { cls:=.type "list_iterator",data:=.fields #[.ref l,.int 0 0] }).get? s.heap.objs.size=some { cls:=.type "set",dict:=none,data:=.set #[] 0 (.fresh 0 0 led) }:=Heap.get?_push_of_some _ eS
     exact ⟨_,#[],0,.fresh 0 0 led,[],eg,⟨rfl,rfl,rfl⟩,rfl,⟨⟨3,rfl⟩,rfl,rfl,by show 0≤7; decide,by show 7 % 2=1; rfl,ST.Up.nil⟩,by show 0 * 5 < 7 * 3; decide,rfl,hled,by show 7≤9000; decide,List.Perm.refl _,rfl⟩
    case hR =>
     intro s' mv hS'
     obtain ⟨g,gg,d',tk',os'⟩:=s'
     have e1:gg=s.gens:=mv.gens
     have e2:d'=s.drawn:=mv.drawn
     have e3:os'=s.os:=mv.os
     subst e1
     subst e2
     subst e3
     show wpAny _ _ _ _ _ _
     refine wpAny_pure ?_
     show wpAny _ _ (ret Value.none) _ _ _
     refine wpAny_pure ⟨rfl,g,tk',rfl,hS',fun b o hb e=>?_⟩
     have hb2:b≠(s.heap.push { cls:=.type "set",dict:=none,data:=.set #[] 0 (.fresh 0 0 led) }).objs.size:=by
      rw [Heap.size_push]
      exact Nat.ne_of_lt (Nat.lt_succ_of_lt hb)
     exact mv.heap b o (by simp only [List.mem_cons,List.mem_singleton,List.not_mem_nil,or_false,not_or]; exact ⟨Nat.ne_of_lt hb,hb2⟩) (Heap.get?_push_of_some _ (Heap.get?_push_of_some _ e))
   ·cases r₂ with
    | error e=>exact hr₂
    | ok fl₂ =>
     cases fl₂ with
     | ret r =>
      obtain ⟨rfl,g,tk,rfl,hS',hk'⟩:=hr₂
      repeat (any_goals (first | assumption | wp_step))
      exact q _ _ hS' hk'
     | _=>exact hr₂.elim
  | _=>exact hr.elim
end SX
namespace L2
open PySem PySem.Spec PyProof.Rows
def ExcAt (cls:Value) (T e:Addr) (h:Heap):Prop:=∃ oe vs a0,h.get? e=some oe∧oe.cls=cls∧oe.data=.fields vs∧vs[0]?=some a0∧vs[1]?=some (.ref T)
def wV (T:Addr) (h:Heap):Prop:=∃ oT ts,h.get? T=some oT∧oT.data=.fields ts∧ts[3]?=some .none
def mK (cls:Value) (T e:Addr):HO:=.ext (ExcAt cls T e)
def TrO (T:Addr):HO:=.ext (wV T)
theorem HX {P:Program} {w:World} {H:Hp} {h:Heap} {cls:Value} {T e:Addr} (x:ExcAt cls T e h):cF P w H h e (mK cls T e):=by
 refine ⟨x,?_,fun h1 h2 p k=>?_⟩
 ·obtain ⟨oe,_,_,he,_⟩:=x
  exact ⟨oe,he⟩
 ·obtain ⟨oe,vs,a0,he,r⟩:=p
  exact ⟨oe,vs,a0,k oe he,r⟩
theorem Bk {P:Program} {w:World} {H:Hp} {h:Heap} {T:Addr} (x:wV T h):cF P w H h T (TrO T):=by
 refine ⟨x,?_,fun h1 h2 p k=>?_⟩
 ·obtain ⟨oe,_,he,_⟩:=x
  exact ⟨oe,he⟩
 ·obtain ⟨oe,vs,he,r⟩:=p
  exact ⟨oe,vs,k oe he,r⟩
def CX1 (P:Program) (w:World):CXT:=fun outer H s E e s'=>∃ (ea T:Addr) (cls:Value) (H':Hp),e=.ref ea∧T≠ea∧s'.os=s.os∧AllBare s'.gens∧Un (frs outer) [] H H' s.heap s'.heap∧HOk P w H' s'.heap ∧
 H' ea=some (mK cls T ea)∧H' T=some (TrO T)∧E cls (some ea) H'
section
variable {M:Model} {A:Around} {E:Value→Shared→Prop} {s:Shared} {base:Heap} {env:Env} {outer:List Env} {L e:Addr}
structure Left (fs:List Addr) (e:Addr) (cls:Value) (T:Addr) (h h':Heap):Prop where
 keep:∀ b o,h.get? b=some o→b ∉ fs→b≠e→h'.get? b=some o
 slot:∀ b o,h.get? b=some o→b∈fs→∃ sl,h'.get? b=some { o with slots:=sl }
 new:h.get? T=none
 ne:T≠e
 exc:ExcAt cls T e h'
 tr:wV T h'
theorem jH {base B h:Heap} {l:List Env} (hl:h.FunFrames base l) (hB:∀ b∈frs l,B.get? b=none):h.FunFrames B l:=by
 induction l with
 | nil=>trivial
 | cons env r ih =>
  obtain ⟨hk,⟨L,o,hf,hn,ho,hd⟩,hr⟩:=hl
  refine ⟨hk,⟨L,o,hf,hB L ?_,ho,hd⟩,ih hr fun b hb=>hB b ?_⟩
  ·unfold frs; rw [List.filterMap_cons,hf]; exact List.mem_cons_self
  ·unfold frs; rw [List.filterMap_cons,hf]; exact List.mem_cons_of_mem _ hb
theorem zN {cls a0:Value} {h':Heap} (hl:s.heap.FunFrames base (env :: outer))
  (x:Heap.LeftW (PySem.W.hideAll s.heap (e :: frs (env :: outer))) (env :: outer) e cls a0 s.heap h'):∃ T,Left (frs (env :: outer)) e cls T s.heap h':=by
 obtain ⟨k1,k2,⟨oe,vs,T,oT,ts,he,⟨hc,h0⟩,hd,h1,hnT,hTe,hT,hdT,h3⟩,k4⟩:=x
 refine ⟨T,fun b o hb hn hne=>k1 b o (PySem.W.hideAll_get _ hb fun z=>?_),fun b o hb hm=>?_,?_,hTe,⟨oe,vs,a0,he,hc,hd,h0,h1⟩,⟨oT,ts,hT,hdT,h3⟩⟩
 ·rcases List.mem_cons.mp z with z | z
  ·exact hne z
  ·exact hn z
 ·obtain ⟨_,o',ho',hnf⟩:=hl.mem hm
  rw [hb] at ho'; cases ho'
  exact k4 b o hb hnf
 ·cases q:s.heap.get? T with
  | none=>rfl
  | some o =>
   exfalso
   by_cases hm:T∈frs (env :: outer)
   ·obtain ⟨_,o',ho',hnf⟩:=hl.mem hm
    obtain ⟨sl,e1⟩:=k4 T o' ho' hnf
    rw [hT] at e1; cases e1
    exact hnf ts hdT
   ·have:=PySem.W.hideAll_get (e :: frs (env :: outer)) q fun z=>(List.mem_cons.mp z).elim hTe hm
    rw [hnT] at this; cases this
theorem tG {oe:Obj} {vs:Array Value} {a0:Value} {Q:Unit→Shared→Prop} (hfr:A.frames=some (env :: outer)) (hl:s.heap.FunFrames base (env :: outer)) (hf:env.frame=some L)
  (he:s.heap.get? e=some oe) (hd:oe.data=.fields vs) (h1:vs[1]?=some .none) (h0:vs[0]?=some a0)
  (h:∀ h' T,Left (frs (env :: outer)) e oe.cls T s.heap h'→Q () { s with heap:=h' }):wpAny M A (leaving env (.ref e)) Q E s:=by
 refine wpAny_leaving_firstW (base:=PySem.W.hideAll s.heap (e :: frs (env :: outer))) hfr (jH hl fun b hb=>PySem.W.hideAll_none _ (List.mem_cons_of_mem _ hb)) hf he (fun b o hb=>PySem.W.of_hideAll _ hb) (PySem.W.hideAll_none _ List.mem_cons_self) hd h1 h0 fun h' x=>?_
 obtain ⟨T,y⟩:=zN hl x
 exact h h' T y
theorem qN {cls:Value} {T:Addr} {Q:Unit→Shared→Prop} (hfr:A.frames=some (env :: outer)) (hl:s.heap.FunFrames base (env :: outer)) (hf:env.frame=some L)
  (hx:ExcAt cls T e s.heap) (hT:wV T s.heap) (hTe:T≠e)
  (h:∀ h1 h' T',(∀ b,b≠T→h1.get? b=s.heap.get? b)→wV T h1→Left (frs (env :: outer)) e cls T' h1 h'→Q () { s with heap:=h' }):wpAny M A (noteFrame (.ref e) env) (fun _ s'=>wpAny M A (setFlight (.ref e) none) Q E s') E s:=by
 obtain ⟨oe,vs,a0,he,hcls,hd,h0,h1⟩:=hx
 obtain ⟨oT,ts,hT,hdT,h3⟩:=hT
 subst hcls
 unfold noteFrame
 simp only [hf]
 refine wpAny_bind (wpAny_field he hd h1 ?_)
 rw [if_pos (show (Value.ref T != Value.none)=true from by simp)]
 refine wpAny_bind (wpAny_field hT hdT h3 ?_)
 rw [if_neg (show ¬ ((Value.none == rawInt L)=true) from by simp [rawInt])]
 refine wpAny_bind (wpAny_setField hT hdT (Array.getElem?_eq_some_iff.mp h3).1 ?_)
 have other:∀ b,b≠T→(s.heap.update T (Obj.mapFields (·.setIfInBounds 3 Value.none))).get? b=s.heap.get? b:=fun b hb=>Heap.get?_update_other _ _ (Ne.symm hb)
 have noRecord:∀ b o,s.heap.get? b=some o→(∀ vs,o.data≠.fields vs)→b≠T:=fun b o hb hnf q=>by
  rw [q,hT] at hb; injection hb with hb; subst hb; exact hnf ts hdT
 have hl1:(s.heap.update T (Obj.mapFields (·.setIfInBounds 3 Value.none))).FunFrames base (env :: outer):=hl.of_keeps fun b o hb hnf=>⟨o,(other b (noRecord b o hb hnf)).trans hb,rfl⟩
 have hT1:wV T (s.heap.update T (Obj.mapFields (·.setIfInBounds 3 Value.none))) :=
  ⟨_,_,Heap.get?_update_self _ hT (Obj.isFreed_of_fields (Obj.data_mapFields hdT _)),Obj.data_mapFields hdT _,by simp [(Array.getElem?_eq_some_iff.mp h3).1]⟩
 refine wpAny_newEntryW (base:=PySem.W.hideAll (s.heap.update T (Obj.mapFields (·.setIfInBounds 3 Value.none))) (e :: frs (env :: outer))) hfr (jH hl1 fun b hb=>PySem.W.hideAll_none _ (List.mem_cons_of_mem _ hb)) hf ((other e (Ne.symm hTe)).trans he)
  (fun b o hb=>PySem.W.of_hideAll _ hb) (PySem.W.hideAll_none _ List.mem_cons_self) hd (Array.getElem?_eq_some_iff.mp h1).1 h0 fun h' x=>?_
 obtain ⟨T',y⟩:=zN (s:={ s with heap:=s.heap.update T (Obj.mapFields (·.setIfInBounds 3 Value.none)) }) hl1 x
 exact h _ h' T' other hT1 y
theorem xu {cls:Value} {T:Addr} {Q:Unit→Shared→Prop} (hfr:A.frames=some (env :: outer)) (hl:s.heap.FunFrames base (env :: outer)) (hf:env.frame=some L)
  (hx:ExcAt cls T e s.heap) (hT:wV T s.heap) (hTe:T≠e)
  (h:∀ h1 h' T',(∀ b,b≠T→h1.get? b=s.heap.get? b)→wV T h1→Left (frs (env :: outer)) e cls T' h1 h'→Q () { s with heap:=h' }):wpAny M A (leaving env (.ref e)) Q E s:=by
 unfold leaving
 exact wpAny_bind (qN hfr hl hf hx hT hTe h)
end
theorem cF.has {P:Program} {w:World} {H:Hp} {h:Heap} {a:Addr} {o:HO} (x:cF P w H h a o):∃ u,h.get? a=some u:=by
 cases o with
 | lst xs=>obtain ⟨_,_,_,_,e⟩:=x; exact ⟨_,e⟩
 | tup xs=>obtain ⟨_,_,_,ob,e,_⟩:=x; exact ⟨_,e⟩
 | dK kvs=>obtain ⟨_,_,_,_,ob,_,_,e,_⟩:=x; exact ⟨_,e⟩
 | dT kvs=>obtain ⟨_,_,_,_,ob,_,_,e,_⟩:=x; exact ⟨_,e⟩
 | set S n=>obtain ⟨ob,_,_,_,e,_⟩:=x; exact ⟨_,e⟩
 | ins C dx fs=>obtain ⟨_,_,_,e,_⟩:=x; exact ⟨_,e⟩
 | own y=>exact x
 | xd fs=>obtain ⟨_,⟨ob,_,_,e,_⟩,_⟩:=x; exact ⟨_,e⟩
 | rng lo hi=>obtain ⟨_,_,_,e⟩:=x; exact ⟨_,e⟩
 | frz ob u=>exact ⟨_,x.1⟩
 | tbl ps=>exact ⟨_,x⟩
 | met f y=>exact ⟨_,x⟩
 | ext φ=>exact x.2.1
theorem HOk.new {P:Program} {w:World} {H:Hp} {h:Heap} {a:Addr} (x:HOk P w H h) (e:h.get? a=none):H a=none:=by
 cases q:H a with
 | none=>rfl
 | some u =>
  obtain ⟨o,z⟩:=(x a u q).has
  rw [e] at z; cases z
abbrev xH (H:Hp) (T e:Addr) (cls:Value):Hp:=upd (upd H T (TrO T)) e (mK cls T e)
theorem Px {H:Hp} {T e:Addr} {cls:Value} (h:T≠e):xH H T e cls T=some (TrO T):=by
 show upd (upd H T (TrO T)) e (mK cls T e) T=_
 rw [aF h]; exact ak
section
variable {P:Program} {w:World} {fs:List Addr} {e T T0:Addr} {cls:Value} {H:Hp} {h0 h1 h':Heap}
theorem Left.un (x:Left fs e cls T h1 h') (hok:HOk P w H h0) (hfs:∀ b∈fs,H b=none) (k:∀ b o,h0.get? b=some o→b≠T0→h1.get? b=some o) (kn:∀ b,h1.get? b=none→h0.get? b=none)
  (e1:∀ o,h0.get? e=some o→∃ T1,H e=some (mK cls T1 e)) (t1:T0=e∨(H T0=some (TrO T0)∧wV T0 h1)):Un fs [] H (xH H T e cls) h0 h'∧HOk P w (xH H T e cls) h':=by
 have hT0:h0.get? T=none:=kn T x.new
 have hTn:H T=none:=hok.new hT0
 have exx:∀ u,H e=some u→∃ T1,u=mK cls T1 e:=fun u q=>by
  obtain ⟨o,z⟩:=(hok e u q).has
  obtain ⟨T1,r⟩:=e1 o z
  rw [r] at q; cases q; exact ⟨T1,rfl⟩
 have gen:∀ b u,H b=some u→(∀ φ,u≠.ext φ)→xH H T e cls b=some u:=fun b u q ne=>by
  have hbe:b≠e:=fun z=>by
   subst z
   obtain ⟨T1,r⟩:=exx u q
   exact ne _ r
  have hbT:b≠T:=fun z=>by subst z; rw [hTn] at q; cases q
  show upd (upd H T (TrO T)) e (mK cls T e) b=some u
  rw [aF hbe,aF hbT]; exact q
 have ke:∀ b o,h0.get? b=some o→H b=none→b≠e:=fun b o q n z=>by
  subst z
  obtain ⟨T1,r⟩:=e1 o q
  rw [n] at r; cases r
 have kT:∀ b o,h0.get? b=some o→H b=none→b≠T0:=fun b o q n z=>by
  rcases t1 with r | ⟨r,_⟩
  ·exact ke b o q n (z.trans r)
  ·subst z; rw [n] at r; cases r
 have on:∀ b o,h1.get? b=some o→b≠e→∃ o',h'.get? b=some o':=fun b o q hbe=>by
  by_cases hb:b∈fs
  ·obtain ⟨sl,z⟩:=x.slot b o q hb
   exact ⟨_,z⟩
  ·exact ⟨o,x.keep b o q hb hbe⟩
 refine ⟨⟨fun b o q n hb _=>x.keep b o (k b o q (kT b o q n)) hb (ke b o q n),fun b o q n hb _=>x.slot b o (k b o q (kT b o q n)) hb,fun b o q n _=>?_,fun b o q _=>?_,fun b xs q=>gen b _ q fun φ z=>(nomatch z),fun b o u q=>gen b _ q fun φ z=>(nomatch z),fun b ps q=>⟨#[],by rw [gen b _ q fun φ z=>(nomatch z)]; simp⟩⟩,fun b u q=>?_⟩
 ·have hbT:b≠T:=fun z=>by subst z; rw [hT0] at q; cases q
  show upd (upd H T (TrO T)) e (mK cls T e) b=none
  rw [aF (ke b o q n),aF hbT]; exact n
 ·by_cases hbe:b=e
  ·subst hbe
   obtain ⟨oe,_,_,z,_⟩:=x.exc
   exact ⟨oe,z⟩
  ·by_cases hb0:b=T0
   ·subst hb0
    rcases t1 with r | ⟨_,oT,_,z,_⟩
    ·exact absurd r hbe
    ·exact on b oT z hbe
   ·exact on b o (k b o q hb0) hbe
 ·by_cases hbe:b=e
  ·subst hbe
   have:u=mK cls T b:=by
    have q':upd (upd H T (TrO T)) b (mK cls T b) b=some u:=q
    rw [ak] at q'; cases q'; rfl
   subst this
   exact HX x.exc
  ·have q1:upd (upd H T (TrO T)) e (mK cls T e) b=some u:=q
   rw [aF hbe] at q1
   by_cases hbT:b=T
   ·subst hbT
    rw [ak] at q1; cases q1
    exact Bk x.tr
   ·rw [aF hbT] at q1
    have hbf:b ∉ fs:=fun z=>by rw [hfs b z] at q1; cases q1
    by_cases hb0:b=T0
    ·subst hb0
     rcases t1 with r | ⟨r,oT,ts,z,y⟩
     ·exact absurd r hbe
     ·rw [r] at q1; cases q1
      exact Bk ⟨oT,ts,x.keep b oT z hbf hbe,y⟩
    ·refine (hok b u q1).stay (fun c v hc q2=>?_) (fun c q2=>gen c _ q2 fun φ z=>(nomatch z)) fun c xs q2=>gen c _ q2 fun φ z=>(nomatch z)
     rcases hc with rfl | hc
     ·exact x.keep c v (k c v q2 hb0) hbf hbe
     ·have hce:c≠e:=fun z=>by
       subst z
       obtain ⟨T1,r⟩:=exx _ hc
       cases r
      have hc0:c≠T0:=fun z=>by
       rcases t1 with r | ⟨r,_⟩
       ·exact hce (z.trans r)
       ·subst z; rw [r] at hc; cases hc
      exact x.keep c v (k c v q2 hc0) (fun z=>by rw [hfs c z] at hc; cases hc) hce
end
section
variable {X:Cx} {pins:List (Addr × Obj)} {σ:St} {H H':Hp} {s:Shared} {h':Heap}
theorem Inv.out (I:Inv X pins σ H s) (hx:X.ex=[]) (u:Un (frs X.stack) [] H H' s.heap h'):Un (frs X.outer) [] X.H₀ H' X.s₀.heap h':=by
 have hsub:∀ b∈X.fs,b∈frs X.stack:=fun b hb=>by
  rcases I.ok.stk with e | ⟨e,hf⟩
  ·rw [e]; exact hb
  ·rw [e]; unfold frs; rw [List.filterMap_cons,hf]; exact List.mem_cons_of_mem _ hb
 have b0:=I.base
 rw [hx] at b0
 have t:=(b0.mono (fs':=frs X.stack) (ex':=[]) hsub fun _ z=>z).trans u
 refine ⟨fun b o q n hb hx=>t.keep b o q n (fun z=>?_) hx,fun b o q n hb hx=>t.slot b o q n (hsub b hb) hx,t.free,t.there,t.tups,t.frzs,t.tbls⟩
 rcases List.mem_cons.mp (I.stkSub b z) with r | r
 ·subst r
  exact absurd (Nat.lt_of_lt_of_le (Heap.lt_size q) I.ok.above) (Nat.lt_irrefl _)
 ·exact hb r
end
section
variable {P:Program} {w:World} {K:PySem.W.Frag} {mg:Str→Option Value} {base:Heap} {N:List Str} {qual:Str} {scope:Scope} {f:Addr} {cd:Value} {A:Around} {outer:List Env} {s0:Shared} {H0:Hp} {E:XK}
 {pins:List (Addr × Obj)} {σ:St} {H:Hp} {s:Shared}
theorem sJ {cls:Value} {args:List Value} {e:Addr} {h1:Heap} (I:Inv (uy (CX1 P w) P w K mg base N qual scope f cd A outer s0 H0 E) pins σ H s) (hx:Heap.MadeExcOf s.heap h1 e cls args)
  (hE:∀ T,H e=none→H T=none→E cls (some e) (xH H T e cls)):(uy (CX1 P w) P w K mg base N qual scope f cd A outer s0 H0 E).xe (.ref e) { s with heap:=h1 }:=by
 have hl:=I.stack
 have hl1:h1.FunFrames base (envOfC qual scope s0.heap.objs.size f cd :: outer):=hl.of_keeps fun b o hb _=>⟨o,hx.keeps b o hb,rfl⟩
 obtain ⟨t,he,htn,ht⟩:=hx.there
 refine tG (s:={ s with heap:=h1 }) (L:=s0.heap.objs.size) I.ok.frames hl1 rfl he rfl rfl rfl fun h' T x=>?_
 have kn:∀ b,h1.get? b=none→s.heap.get? b=none:=fun b q=>by
  cases z:s.heap.get? b with
  | none=>rfl
  | some o=>rw [hx.keeps b o z] at q; cases q
 have He:H e=none:=I.hok.new hx.new
 obtain ⟨u,ok⟩:=x.un (P:=P) (w:=w) (T0:=e) (H:=H) (h0:=s.heap) I.hok I.stkFree (fun b o q _=>hx.keeps b o q) kn (fun o q=>by rw [hx.new] at q; cases q) (.inl rfl)
 exact ⟨e,T,cls,_,rfl,x.ne,I.os,I.bare,I.out rfl u,ok,ak,Px x.ne,hE T He (I.hok.new (kn T x.new))⟩
theorem Jr (E1:XK) (hE:∀ cls e T H',H' e=some (mK cls T e)→E1 cls (some e) H'→∀ T',H' T'=none→E cls (some e) (xH H' T' e cls)):Passes (CX1 P w) (uy (CX1 P w) P w K mg base N qual scope f cd A outer s0 H0 E) E1:=by
 intro pins σ H s e s' I h
 obtain ⟨ea,T,cls,H',rfl,hTe,os,bare,un,ok,he,hT,q⟩:=h
 have J:Inv (uy (CX1 P w) P w K mg base N qual scope f cd A outer s0 H0 E) pins σ H' s':=I.call' (ch:=[]) os un ok bare fun b z=>absurd z (by simp)
 have a1:ExcAt cls T ea s'.heap:=(ok ea _ he).1
 have a2:wV T s'.heap:=(ok T _ hT).1
 refine xu (s:=s') (L:=s0.heap.objs.size) J.ok.frames J.stack rfl a1 a2 hTe fun h1 h' T' k1 k2 x=>?_
 have kn:∀ b,h1.get? b=none→s'.heap.get? b=none:=fun b q=>by
  by_cases hb:b=T
  ·subst hb
   obtain ⟨oT,_,z,_⟩:=k2
   rw [z] at q; cases q
  ·rw [← k1 b hb]; exact q
 obtain ⟨u,ok'⟩:=x.un (P:=P) (w:=w) (T0:=T) (H:=H') (h0:=s'.heap) J.hok J.stkFree (fun b o q hb=>by rw [k1 b hb]; exact q) kn (fun o _=>⟨T,he⟩) (.inr ⟨hT,k2⟩)
 exact ⟨ea,T',cls,_,rfl,x.ne,J.os,J.bare,J.out rfl u,ok',ak,Px x.ne,hE cls ea T H' he q T' (J.hok.new (kn T' x.new))⟩
end
end L2
namespace L2
open PySem PySem.Spec PyProof.Rows
abbrev vBm:List Value:=[.type "ValueError",.type "Exception",.type "BaseException",.type "object"]
theorem zJ {K:PySem.W.Frag} {h:Heap} {C:Addr} {bmB:List Value} {newId:String} {x:Str} {mg:Str→Option Value} (X:K.In h) (hb:mg x=some (.ref C)) (q:PySem.W.excIn K C bmB newId=true):OwnCls x C bmB newId mg h:=by
 refine ⟨hb,?_⟩
 unfold PySem.W.excIn at q
 split at q
 ·rename_i dd cd sl ho
  split at q
  ·rename_i C' bm k0 k1 k2 k3 n k5 hm hs
   simp only [Bool.and_eq_true,beq_iff_eq,Bool.not_eq_true'] at q
   obtain ⟨⟨⟨⟨⟨h1,h2⟩,h3⟩,h4⟩,h5⟩,h6⟩:=q
   subst h1; subst h2
   have e1:sl = #[k0,k1,k2,k3,some (.builtin n),k5]:=Array.toList_inj.mp hs
   subst e1
   have e2:cd={ name:=cd.name,bases:=cd.bases,mro:=.ref C' :: bm,ns:=cd.ns,qualname:=cd.qualname,hasDict:=cd.hasDict,slotNames:=cd.slotNames,subclasses:=cd.subclasses,abstract:=cd.abstract,collection:=cd.collection,hasDel:=false }:=by
    rw [← hm,← h3]
   have e3:=X _ _ ho
   rw [e2] at e3
   exact ⟨bm,cd.ns,cd.name,cd.qualname,cd.bases,cd.hasDict,cd.slotNames,cd.subclasses,cd.abstract,cd.collection,dd,k0,k1,k2,k3,k5,_,e3,.of_isNs (PySem.W.isNs_of_in X h5),PySem.W.nsMap_none_of_in X h5 h6,PySem.W.tail_of_in X h4⟩
  ·cases q
 ·cases q
def Throws (X:Cx) (E:XK):Prop:=∀ (pins:List (Addr × Obj)) (σ:St) (H:Hp) (s:Shared) (e:Addr) (h1:Heap) (cls:Value) (args:List Value),Inv X pins σ H s→Heap.MadeExcOf s.heap h1 e cls args →
 (∀ T,H e=none→H T=none→E cls (some e) (xH H T e cls))→X.xe (.ref e) { s with heap:=h1 }
theorem zB {P:Program} {w:World} {K:PySem.W.Frag} {mg:Str→Option Value} {base:Heap} {N:List Str} {qual:Str} {scope:Scope} {f:Addr} {cd:Value} {A:Around} {outer:List Env} {s0:Shared} {H0:Hp} {E:XK} :
  Throws (uy (CX1 P w) P w K mg base N qual scope f cd A outer s0 H0 E) E:=fun _ _ _ _ _ _ _ _ I hx hE=>sJ I hx hE
def Nm (C:Addr) (E:XK) (t:TA):TS:=fun _ σ H=>t σ H fun vs H1=>vs.length≤sizeLine∧∀ e T,H1 e=none→H1 T=none→E (.ref C) (some e) (xH H1 T e (.ref C))
theorem vU {X:Cx} {x:Str} {C:Addr} {E:XK} {a:Expr} {as:List Expr} {t:TA} {np cpos pos:Pos} (hc:X.calm=true) (ht:Throws X E) (hg:Gl X x) (hm:X.mg x=some (.ref C)) (hq:PySem.W.excIn X.K C vBm "ValueError.__new__" = true) (ha:PA X (a :: as) t)
  (hdb:(x == ("__debug__" : Str))=false:=by decide) (he:starEach (a :: as) X.env=(false,eval a X.env) :: starEach as X.env:=by rfl) (hpl:(backTo cpos (starEach as X.env)).any (·.1)=false:=by rfl) :
  PS X (.Raise (some (.Call (.Name x np) (a :: as) [] cpos)) none pos) (Nm C E t):=by
 intro pins s σ H D I h
 obtain ⟨_,bm,N,nm,q,bs,hdct,sn,sub,ab,col,dd,k0,k1,k2,k3,k5,mN,hC,hN,hni,T⟩:=zJ (x:=x) I.mod.kin hm hq
 have hb:bm.contains (.type "BaseException")=true:=T.hasType (by decide)
 refine wpAny_Raise_call_subT (C:=C) (nm:=nm) (q:=q) (N:=N) (bs:=bs) (bm:=bm) (hdct:=hdct) (sn:=sn) (sub:=sub) (ab:=ab) (col:=col) (dd:=dd) (k0:=k0) (k1:=k1) (k2:=k2) (k3:=k3) (k5:=k5) F.excBase_ValueError hb (I.ok.hd hc) ?_ hni (lX I hg hm ⟨rfl,?_⟩ hdb)
 ·rw [he]; show (false || (backTo cpos (starEach as X.env)).any (·.1))=false; rw [hpl]; rfl
 have h2:=ha cpos pins s σ H _ I h
 rw [he] at h2 ⊢
 refine Calls.evalArgs_plain (wpAny_mono h2 (fun us s1 ⟨vs,H1,I1,r,q1,q2⟩=>⟨rfl,?_,I1.bk _ _ hC,hN.keeps I1.bk,T.keeps I1.bk,fun h' e hx=>ht pins σ H1 s1 e h' _ _ I1 hx fun T h3 h4=>q2 e T h3 h4⟩) fun _ _ y=>y)
 rw [← r.length]; exact q1
abbrev TJ:=St→Hp→Str→VK→Prop
def PJ (X:Cx) (es:List Expr) (t:TJ):Prop :=
 ∀ (pins:List (Addr × Obj)) (s:Shared) (σ:St) (H:Hp) (acc:Str) (Q:VK),Inv X pins σ H s→t σ H acc Q→wpAny (model X.prog X.w) X.A (joinParts acc (evalEach es X.env)) (EP X pins σ Q) X.xe s
def tJ0:TJ:=fun _ H acc Q=>acc.length≤sizeLine∧Q (.str acc) H
def tJ1 (te:TE) (tj:TJ):TJ:=fun σ H acc Q=>te σ H fun v H1=>∃ y,v=.str y∧(acc++y).length≤sizeLine∧tj σ H1 (acc++y) Q
def Rj (te:TE):TE:=fun σ H Q=>te σ H fun v H1=>(∃ y,v=.str y∧y.length≤sizeLine∧Q v H1)∨∃ i:Int,v=.int i∧i.natAbs.log2 < 1920∧Q (.str (toString i)) H1
section
variable {X:Cx} {e e2:Expr} {es:List Expr} {te te2:TE} {tj:TJ} {pos:Pos}
theorem Gq:PJ X [] tJ0:=fun pins s σ H acc Q I h=>joinParts_nil ⟨.str acc,H,I.tok _,⟨_,rfl⟩,h.2⟩ h.1
theorem lJ (he:PE X e te) (hj:PJ X es tj):PJ X (e :: es) (tJ1 te tj):=fun pins s σ H acc Q I h=>by
 refine joinParts_cons (thn (he pins s σ H _ I h) fun u s1 ⟨v,H1,I1,r,y,e1,hl,q⟩=>?_)
 subst e1
 obtain ⟨tk,rfl⟩:=r
 exact ⟨hl,hj pins s1 σ H1 _ Q I1 q⟩
theorem yS (he:PE X e te):PE X (.FormattedValue e (-1) none pos) (Rj te):=fun pins s σ H Q I h=>by
 refine FormattedValue_plain (thn (he pins s σ H _ I h) fun u s1 ⟨v,H1,I1,r,q⟩=>?_)
 rcases q with ⟨y,rfl,hl,q⟩ | ⟨i,rfl,hl,q⟩
 ·obtain ⟨tk,rfl⟩:=r
  exact formatField_str (fun t' tk=>⟨.str y,H1,I1.tok _,⟨t',rfl⟩,q⟩) hl
 ·obtain ⟨tk,rfl⟩:=r
  exact formatField_int_small hl ⟨.str (toString i),H1,I1.tok _,⟨_,rfl⟩,q⟩
theorem zm (hj:PJ X (e :: e2 :: es) tj):PE X (.JoinedStr (e :: e2 :: es) pos) (fun σ H Q=>tj σ H Str.empty Q):=fun pins s σ H Q I h=>JoinedStr_many (hj pins s σ H Str.empty Q I h)
end
end L2
namespace L2
open PySem PySem.Spec PyProof.Rows
structure jP (P:Program) (w:World) (K:PySem.W.Frag) (mg:Str→Option Value) (base:Heap) (x:Str) (k:Nat) (ps:List Str) (sp:Sp):Prop where
 ex:∃ (f:Addr) (fd:FuncData),jQ P w K mg base (CX1 P w) k f fd ps sp∧Binds K fd ps []∧PySem.W.keepIn K (.ref f)=true∧mg x=some (.ref f)
theorem jQ.to1 {P:Program} {w:World} {K:PySem.W.Frag} {mg:Str→Option Value} {base:Heap} {CX:CXT} {k:Nat} {f:Addr} {fd:FuncData} {ps:List Str} {sp:Sp} (F:jQ P w K mg base CX0 k f fd ps sp):jQ P w K mg base CX k f fd ps sp :=
 ⟨F.len,fun A outer s H args us vs Q E hr he hb hv hs=>codeAny_mono (F.run A outer s H args us vs Q E hr he hb hv hs) fun r s' q=>by
  cases r with
  | error e=>exact False.elim q
  | ok fl=>cases fl <;> exact q⟩
section
variable {P:Program} {w:World} {K:PySem.W.Frag} {mg:Str→Option Value} {base:Heap} {x:Str} {ps:List Str} {sp:Sp}
theorem Cal.to1 {k:Nat} (C:Cal P w K mg base x k ps sp):jP P w K mg base x k ps sp:=by
 obtain ⟨f,fd,F,r⟩:=C.ex
 exact ⟨f,fd,F.to1,r⟩
theorem Has.mk1 {st:Stmt} {N:List Str} {k:Nat} (h:Has K mg x st ps) (S:aQ N ps (aC st)) (len:∀ vs H Q E,sp vs H Q E→vs.length=ps.length)
  (hbody:∀ (f:Addr) (cdv:Value) (A:Around) (outer:List Env) (s:Shared) (H:Hp) (vs:List V) (Q:VK) (E:XK),jf k (A.deeper (envOfC x (aC st) s.heap.objs.size f cdv))→sp vs H Q E →
   ∃ t,PSs (uy (CX1 P w) P w K mg base N x (aC st) f cdv A outer s H E) (dN st) t∧t { nx:=fun _ H'=>Q .non H',rt:=Q } (start N vs) H):jP P w K mg base x (k+1) ps sp:=by
 obtain ⟨f,fd,F,b,m⟩:=h.ex
 obtain ⟨oc,od,kV,doc,pm,an,cdv,ct,osl,rfl,lk,hcd⟩:=F.ex
 exact ⟨f,_,Nh lk hcd S len fun A outer s H vs Q E hr hsp=>hbody f cdv A outer s H vs Q E hr hsp,b,F.kp,m⟩
end
def jk (CX:CXT) (X:Cx) (E:St→XK):Prop:=∀ (pins:List (Addr × Obj)) (σ:St) (H:Hp) (s:Shared) (e:Value) (s':Shared),Inv X pins σ H s→CX X.stack H s (E σ) e s'→X.xe e s'
theorem Passes.s {CX:CXT} {X:Cx} {E:XK} (h:Passes CX X E):jk CX X fun _=>E:=h
def Gi (sp:Sp) (E:St→XK) (t:TA):TE:=fun σ H Q=>t σ H fun vs H1=>sp vs H1 Q (E σ)
theorem fM {X:Cx} {x:Str} {k n:Nat} {ps:List Str} {sp:Sp} {E:St→XK} {e:Expr} {es:List Expr} {t:TA} {p pos:Pos} (C:jP X.prog X.w X.K X.mg X.base x k ps sp) (hr:jf n X.A) (hk:k≤n) (hg:Gl X x) (hx:jk (CX1 X.prog X.w) X E) (ha:PA X (e :: es) t)
  (hdb:(x == ("__debug__" : Str))=false:=by decide) (he:starEach (e :: es) X.env=(false,eval e X.env) :: starEach es X.env:=by rfl) (hpl:(backTo pos (starEach es X.env)).any (·.1)=false:=by rfl) :
  PE X (.Call (.Name x p) (e :: es) [] pos) (Gi sp E t):=by
 obtain ⟨f,fd,F,b,kp,m⟩:=C.ex
 intro pins s σ H Q I h
 refine wpAny_Call_Name_kw (lX I hg m ?_ hdb)
 refine PySem.W.callWith_K (h₀:=X.base) I.ok.mod.kin kp (thn (ha pos pins s σ H _ I h) fun us s1 ⟨vs,H1,I1,r,q⟩=>⟨I1.kIn,?_⟩) he hpl
 have hl:us.length=ps.length:=by rw [← r.length]; exact F.len _ _ _ _ q
 refine wpAny_call (codeAny_mono ((F.mono hk).run X.A X.stack s1 H1 ⟨us,[]⟩ us vs Q (E σ) hr I1.env0 (by have:=b s1 us I1.kIn (by rw [List.append_nil]; exact hl); rw [List.append_nil] at this; exact this) r q) fun r s' hq=>?_)
 cases r with
 | error e=>exact hx pins σ H1 s1 e s' I1 hq
 | ok fl =>
  cases fl with
  | ret u=>exact I1.after hq
  | next=>exact False.elim hq
  | brk=>exact False.elim hq
  | cont=>exact False.elim hq
end L2
namespace L2
open PySem PySem.Spec PyProof.Rows
abbrev XR:=Value→Addr→St→Hp→Prop
def N5 (X:Cx) (pins:List (Addr × Obj)) (R:XR) (e:Value) (s:Shared):Prop:=∃ (ea T:Addr) (cls:Value) (σ:St) (H:Hp),e=.ref ea∧T≠ea∧Inv X pins σ H s∧H ea=some (mK cls T ea)∧H T=some (TrO T)∧R cls ea σ H
abbrev mG (X:Cx) (pins:List (Addr × Obj)) (R:XR):Cx:={ X with pn:=X.pn++pins,xe:=N5 X pins R }
section
variable {X:Cx} {pins more:List (Addr × Obj)} {σ:St} {H:Hp} {s:Shared} {R:XR}
theorem Oe (ok:X.Ok):(mG X pins R).Ok:=⟨ok.mod,ok.kind,ok.glob,ok.blt,ok.above,ok.inj,ok.has,ok.cab,ok.hd,ok.frames,ok.stk,ok.exf,ok.bs,ok.bsz,ok.noex,ok.exfs,ok.funs,ok.frf⟩
theorem Hi (ok:(mG X pins R).Ok):X.Ok:=⟨ok.mod,ok.kind,ok.glob,ok.blt,ok.above,ok.inj,ok.has,ok.cab,ok.hd,ok.frames,ok.stk,ok.exf,ok.bs,ok.bsz,ok.noex,ok.exfs,ok.funs,ok.frf⟩
theorem Inv.toTry (I:Inv X pins σ H s):Inv (mG X pins R) [] σ H s:=⟨Oe I.ok,I.os,I.bare,I.base,I.loc,I.cell,I.free,I.freeC,fun p hp=>I.pin p (by
 have hp':p∈(X.pn++pins)++[]:=hp
 rw [List.append_nil] at hp'; exact hp'),I.hok,I.len⟩
theorem Inv.ofTry (I:Inv (mG X pins R) more σ H s):Inv X pins σ H s:=⟨Hi I.ok,I.os,I.bare,I.base,I.loc,I.cell,I.free,I.freeC,fun p hp=>I.pin p (List.mem_append_left _ hp),I.hok,I.len⟩
theorem SP.ofTry {D:Ends} {f:Flow} {s':Shared} (h:SP (mG X pins R) [] D f s'):SP X pins D f s':=by
 cases f with
 | next=>obtain ⟨σ',H',I,q⟩:=h; exact ⟨σ',H',I.ofTry,q⟩
 | brk=>obtain ⟨σ',H',I,q⟩:=h; exact ⟨σ',H',I.ofTry,q⟩
 | cont=>obtain ⟨σ',H',I,q⟩:=h; exact ⟨σ',H',I.ofTry,q⟩
 | ret u=>obtain ⟨v,σ',H',I,r,q⟩:=h; exact ⟨v,σ',H',I.ofTry,r,q⟩
theorem HW:jk (CX1 X.prog X.w) (mG X pins R) (fun σ cls o H'=>∀ e,o=some e→R cls e σ H'):=by
 intro more σ H s e s' I h
 obtain ⟨ea,T,cls,H',rfl,hTe,os,bare,un,ok,he,hT,q⟩:=h
 exact ⟨ea,T,cls,σ,H',rfl,hTe,I.ofTry.call' (ch:=[]) os un ok bare fun b z=>absurd z (by simp),he,hT,q ea rfl⟩
theorem tU {M:Model} {ea T:Addr} {cls:Value} {E:Value→Shared→Prop} {Q:Unit→Shared→Prop} (I:Inv X pins σ H s) (hst:X.stack=X.env :: X.outer) (hf:X.env.frame=some X.env.locals) (hTe:T≠ea) (he:H ea=some (mK cls T ea)) (hT:H T=some (TrO T))
  (h:∀ s' T',Inv X pins σ (xH H T' ea cls) s'→T'≠ea→H T'=none→Q () s'):wpAny M X.A (noteFrame (.ref ea) X.env) (fun _ s'=>wpAny M X.A (setFlight (.ref ea) none) Q E s') E s:=by
 have a1:ExcAt cls T ea s.heap:=(I.hok ea _ he).1
 have a2:wV T s.heap:=(I.hok T _ hT).1
 have hl:=I.stack
 have hfr:=I.ok.frames
 have hfree:=I.stkFree
 rw [hst] at hl hfr hfree
 refine qN (L:=X.env.locals) hfr hl hf a1 a2 hTe fun h1 h' T' k1 k2 x=>?_
 have kn:∀ b,h1.get? b=none→s.heap.get? b=none:=fun b q=>by
  by_cases hb:b=T
  ·subst hb
   obtain ⟨oT,_,z,_⟩:=k2
   rw [z] at q; cases q
  ·rw [← k1 b hb]; exact q
 obtain ⟨u,ok'⟩:=x.un (P:=X.prog) (w:=X.w) (T0:=T) (H:=H) (h0:=s.heap) I.hok hfree (fun b o q hb=>by rw [k1 b hb]; exact q) kn (fun o _=>⟨T,he⟩) (.inr ⟨hT,k2⟩)
 exact h _ T' (I.call' (ch:=[]) (s':={ s with heap:=h' }) rfl (by rw [hst]; exact u) ok' I.bare fun b z=>absurd z (by simp)) x.ne (I.hok.new (kn T' x.new))
theorem sZ {M:Model} {A:Around} {ea T:Addr} {cls:Value} {E:Value→Shared→Prop} {Q:Unit→Shared→Prop} (I:Inv X pins σ H s) (he:H ea=some (mK cls T ea)) (hT:H T=some (TrO T))
  (h:∀ s',Inv X pins σ H s'→Q () s'):wpAny M A (setFlight (.ref ea) none) Q E s:=by
 obtain ⟨oe,vs,a0,he1,_,hd,h0,h1⟩:ExcAt cls T ea s.heap:=(I.hok ea _ he).1
 obtain ⟨oT,ts,hT1,hdT,h3⟩:wV T s.heap:=(I.hok T _ hT).1
 have hsz3:3 < ts.size:=(Array.getElem?_eq_some_iff.mp h3).1
 unfold setFlight
 refine wpAny_bind (wpAny_field he1 hd h1 ?_)
 rw [if_pos (show (Value.ref T != Value.none)=true from by simp)]
 have hup:upd H T (TrO T)=H:=by
  funext b
  unfold upd
  split
  ·rename_i e; subst e; exact hT.symm
  ·rfl
 have mT:wV T (s.heap.update T (Obj.mapFields (·.setIfInBounds 3 ((none:Option Addr).elim Value.none fun f=>rawInt f)))) :=
  ⟨_,_,Heap.get?_update_self _ hT1 (Obj.isFreed_of_fields (Obj.data_mapFields hdT _)),Obj.data_mapFields hdT _,by simp [hsz3]⟩
 refine wpAny_setField hT1 hdT hsz3 (h _ ?_)
 have W:=I.write (x:=T) (e:=T) (o:=TrO T) (t':=s.toks) (h':=s.heap.update T (Obj.mapFields (·.setIfInBounds 3 ((none:Option Addr).elim Value.none fun f=>rawInt f)))) (by rw [hT]; trivial) (.inl rfl)
  (fun b u hb q=>(Heap.get?_update_other _ _ (Ne.symm hb)).trans q) (by obtain ⟨o,_,z,_⟩:=mT; exact ⟨o,z⟩) (Bk mT)
 rw [hup] at W
 exact W
end
end L2
namespace L2
open PySem PySem.Spec PyProof.Rows
abbrev Jq (X:Cx) (e:Addr):Cx:={ X with A:=X.A.mark (some (.ref e)),calm:=false,xe:=fun _ _=>False }
section
variable {X:Cx} {pins:List (Addr × Obj)} {σ:St} {H:Hp} {s:Shared} {e:Addr}
theorem Rf (ok:X.Ok):(Jq X e).Ok:=⟨ok.mod,ok.kind,ok.glob,ok.blt,ok.above,ok.inj,ok.has,ok.cab,(fun z=>Bool.noConfusion (show false=true from z)),ok.frames,ok.stk,ok.exf,ok.bs,ok.bsz,ok.noex,ok.exfs,ok.funs,ok.frf⟩
theorem Inv.toEx (I:Inv X pins σ H s):Inv (Jq X e) pins σ H s:=⟨Rf I.ok,I.os,I.bare,I.base,I.loc,I.cell,I.free,I.freeC,I.pin,I.hok,I.len⟩
theorem Inv.ofEx (hk:X.Ok) (I:Inv (Jq X e) pins σ H s):Inv X pins σ H s:=⟨hk,I.os,I.bare,I.base,I.loc,I.cell,I.free,I.freeC,I.pin,I.hok,I.len⟩
theorem iD {M:Model} {A:Around} {n:Str} {i:Nat} {pos:Pos} {E:Value→Shared→Prop} {Q:Unit→Shared→Prop} (I:Inv X pins σ H s) (hN:X.N.Nodup) (hi:X.N[i]?=some n) (hl:X.env.kindOf n=some .local)
  (h:∀ s',Inv X pins (σ.set i none) H s'→Q () s'):wpAny M A (do bindName X.env n .none; unbindBehindTheSuite X.env n pos) Q E s:=by
 obtain ⟨m,hn,hm⟩:=id I.loc
 have hcls:(X.env.scope.kind == .class || (X.env.scope.kind == .module && X.env.locals != X.env.globals))=false:=by rw [I.ok.kind]; rfl
 have hiσ:i < σ.length:=by rw [I.len]; exact (List.getElem?_eq_some_iff.mp hi).1
 refine wpAny_nameGoes_keeps hl hn hcls fun h' v hn' hs=>h _ ?_
 have ab:∀ b o,X.s₀.heap.get? b=some o→b≠X.env.locals:=fun b o e=>Nat.ne_of_lt (Nat.lt_of_lt_of_le (Heap.lt_size e) I.ok.above)
 refine ⟨I.ok,I.os,I.bare,⟨fun b o e n hb hx=>(hs.2 b (ab b o e)).trans (I.base.keep b o e n hb hx),fun b o e n hb hx=>?_,I.base.free,fun b o e hx=>?_,I.base.tups,I.base.frzs,I.base.tbls⟩,⟨_,hn',fun j y v' e1 e2 e3=>?_⟩,fun y c e=>?_,I.free,I.freeC,fun p hp=>?_,fun b ob e=>?_,by simpa using I.len⟩
 ·obtain ⟨sl,e1⟩:=I.base.slot b o e n hb hx
  exact ⟨sl,(hs.2 b (ab b o e)).trans e1⟩
 ·obtain ⟨o',e1⟩:=I.base.there b o e hx
  exact ⟨o',(hs.2 b (ab b o e)).trans e1⟩
 ·have hj:j≠i:=fun z=>by
   subst z
   rw [List.getElem?_set_self hiσ] at e2
   cases e2
  rw [List.getElem?_set_ne (Ne.symm hj)] at e2
  obtain ⟨u',r',q⟩:=hm j y v' e1 e2 e3
  refine ⟨u',r',?_⟩
  rcases q with ⟨k,e⟩ | ⟨k,c,e,z⟩
  ·refine .inl ⟨k,?_⟩
   have:y≠n:=fun e=>hj (pC hN e1 (e ▸ hi))
   simp [this,e]
  ·exact .inr ⟨k,c,e,z.sameBut hs (I.cne y c e)⟩
 ·obtain ⟨w',z⟩:=I.cell y c e
  exact ⟨w',z.sameBut hs (I.cne y c e)⟩
 ·obtain ⟨e,n,ne,nf,d⟩:=I.pin p hp
  exact ⟨(hs.2 p.1 ne).trans e,n,ne,nf,d⟩
 ·refine (I.hok b ob e).stay (fun c w' hc q=>(hs.2 c ?_).trans q) (fun _ q=>q) fun _ _ q=>q
  rintro rfl
  rcases hc with rfl | hc
  ·have:=I.free; rw [e] at this; cases this
  ·have:=I.free; rw [hc] at this; cases this
end
structure Under (K:PySem.W.Frag) (D:Addr) (cls:Value):Prop where
 ex:∃ C,cls=.ref C∧PySem.W.subIn K (.ref C) (.ref D)=some true
theorem mF {M:Model} {A:Around} {E:Value→Shared→Prop} {K:PySem.W.Frag} {h:Heap} {g:Array GenState} {d:Drawn} {t:Nat} {os:OsState} {e C D:Addr} {oe:Obj} {x:Str} {mg:Str→Option Value} {Q:Bool→Shared→Prop}
  (X:K.In h) (O:OwnCls x D vBm "ValueError.__new__" mg h) (he:h.get? e=some oe) (hcls:oe.cls=.ref C) (hs:PySem.W.subIn K (.ref C) (.ref D)=some true)
  (hq:Q true ⟨h,g,d,t,os⟩):wpAny M A (excMatches (.ref e) (.ref D)) Q E ⟨h,g,d,t,os⟩:=by
 obtain ⟨_,bm,N,nm,q,bs,hdct,sn,sub,ab,col,dd,k0,k1,k2,k3,k5,mN,hC,hN,hni,T⟩:=O
 have hb:bm.contains (.type "BaseException")=true:=T.hasType (by decide)
 have hcB:(Value.ref D :: bm).contains (.type "BaseException")=true:=by rw [List.contains_cons,hb,Bool.or_true]
 have f:=tc_notTuple
 have L4:PySem.W.Looks M h (isSubtype (.ref C) (.ref D)) true:=PySem.W.looks_subIn X hs
 unfold excMatches
 repeat (first | (with_reducible refine wpAny_loadPart_at he ?_; rw [hcls]) | with_reducible refine wpAny_loadPart_at hC ?_ | (with_reducible refine wpAny_isSubtype_exc hC ?_; rw [hcB]) | (with_reducible refine L4.at ?_) | wp_step)
 exact hq
end L2
namespace L2
open PySem PySem.Spec PyProof.Rows
def GK (i:Nat) (D:Ends):Ends:={ nx:=fun σ H=>D.nx (σ.set i none) H,rt:=D.rt,bk:=fun σ H=>D.bk (σ.set i none) H,ct:=fun σ H=>D.ct (σ.set i none) H }
def rEx (K:PySem.W.Frag) (W:Addr) (i:Nat) (th:TS) (D:Ends):XR:=fun cls ea σ H=>Under K W cls∧∀ T',T'≠ea→H T'=none→th (GK i D) (σ.set i (some (.ref ea))) (xH H T' ea cls)
def Rg (K:PySem.W.Frag) (W:Addr) (i:Nat) (tb:XR→TS) (th:TS):TS:=fun D σ H=>tb (rEx K W i th D) D σ H
theorem Aw {X:Cx} {x n:Str} {i:Nat} {W:Addr} {body suite:List Stmt} {b₀:Stmt} {tb:XR→TS} {th:TS} {np hpos pos:Pos} (hb:∀ pins R,PSs (mG X pins R) body (tb R)) (hs:∀ e,PSs (Jq X e) (b₀ :: suite) th)
  (hg:Gl X x) (hm:X.mg x=some (.ref W)) (hq:PySem.W.excIn X.K W vBm "ValueError.__new__" = true) (hN:X.N.Nodup) (hi:X.N[i]?=some n) (hl:X.env.kindOf n=some .local) (hst:X.stack=X.env :: X.outer) (hf:X.env.frame=some X.env.locals)
  (hdb:(x == ("__debug__" : Str))=false:=by decide) :
  PS X (.Try body [.ExceptHandler (some (.Name x np)) (some n) (b₀ :: suite) hpos] [] [] pos) (Rg X.K W i tb th):=by
 intro pins s σ H D I h
 refine wpAny_Try_except (wpAny_mono (hb pins (rEx X.K W i th D) [] s σ H D I.toTry h) (fun f s1 q=>?_) fun e s1 q=>?_)
 ·have q':=SP.ofTry q
  cases f with
  | next=>exact wpAny_execs_nil q'
  | brk=>exact q'
  | cont=>exact q'
  | ret u=>exact q'
 ·obtain ⟨ea,T,cls,σ1,H1,rfl,hTe,I1,he,hT,⟨C,rfl,hsub⟩,q⟩:=q
  refine tU I1 hst hf hTe he hT fun s2 T' I2 hT'e hT'n=>?_
  have he2:xH H1 T' ea (.ref C) ea=some (mK (.ref C) T' ea):=ak
  have hT2:xH H1 T' ea (.ref C) T'=some (TrO T'):=Px hT'e
  obtain ⟨oe,vs,a0,he3,hcls,hd3,_⟩:ExcAt (.ref C) T' ea s2.heap:=(I2.hok ea _ he2).1
  refine wpAny_handleBy_cons (codeAny_handlers_test (lX (X:=Jq X ea) I2.toEx hg hm ?_ hdb)) (by intro z; cases z)
  refine mF (x:=x) (mg:=X.mg) I2.kIn (zJ I2.kIn hm hq) he3 hcls hsub ?_
  refine codeAny_handlers_suite_as ?_
  refine sZ (X:=Jq X ea) I2.toEx he2 hT2 fun s3 I3=>?_
  refine pW (X:=Jq X ea) (i:=i) (v:=.ref ea) I3 hN hi (.inl hl) rfl (fun s4 I4=>?_) (.inr hl)
  refine wpAny_mono (hs ea pins s4 _ _ (GK i D) I4 (q T' hT'e hT'n)) (fun f s5 q5=>?_) fun _ _ z=>False.elim z
  cases f with
  | next =>
   obtain ⟨σ',H',J,q6⟩:=q5
   exact iD (J.ofEx I2.ok) hN hi hl fun s6 J6=>⟨_,_,J6,q6⟩
  | brk =>
   obtain ⟨σ',H',J,q6⟩:=q5
   exact iD (J.ofEx I2.ok) hN hi hl fun s6 J6=>⟨_,_,J6,q6⟩
  | cont =>
   obtain ⟨σ',H',J,q6⟩:=q5
   exact iD (J.ofEx I2.ok) hN hi hl fun s6 J6=>⟨_,_,J6,q6⟩
  | ret u =>
   obtain ⟨v,σ',H',J,r,q6⟩:=q5
   exact iD (J.ofEx I2.ok) hN hi hl fun s6 J6=>⟨v,_,_,J6,r,q6⟩
end L2
namespace L2
open PySem PySem.Spec PySem.Calls PyProof.Rows PySem.W Builtin.Getset_descriptor
section
variable {prog:Program} {w:World} {A:Around} {E:Value→Shared→Prop} {K:Frag} {x C D:Addr} {ox:Obj} {h:Heap} {g:Array GenState} {d:Drawn} {t:Nat} {os:OsState}
structure vf (h:Heap) (x:Addr) (ox:Obj) (D:Addr):Prop where
 at_:h.get? x=some ox
 cls:ox.cls=.ref D
theorem vf.type {M:Model} (I:vf h x ox D):Looks M h (typeOf (.ref x)) (.ref D):=I.cls ▸ (Looks.ld I.at_).andThen .now
theorem Fx {R:Result→Shared→Prop} {tp:Value} (X:K.In h) (I:vf h x ox D) (hm:mroIn K D (.type "object")=some true)
  (hq:R (.ok (.ret (.ref D))) ⟨h,g,d,t,os⟩):codeAny (model prog w) A (.call (.builtin "getset_descriptor.__get__") ⟨[.builtin "object.__class__",.ref x,tp],[]⟩) R ⟨h,g,d,t,os⟩:=by
 have L0:=I.type (M:=model prog w)
 have L1:=looks_mroIn (M:=model prog w) X hm
 refine codeAny_call_builtin KF.slot_gs.plain KF.entry_gs (KF.slot_gs.check _ _ _ _ _ _ _ _ KF.type_class (KF.args_gs _ _ _) ?_)
 unfold Builtin.«getset_descriptor.__get__» descrGet
 rw [dga_obj]
 refine wpAny_bind (wpAny_pure ?_)
 unfold descrGetter descrCheckInstance descrNameAndClass isInstance
 simp only [KF.owner_class]
 repeat lk
 refine ⟨Code.quiet_builtin _ (by decide +kernel),codeAny_builtin KF.entry_class ?_⟩
 unfold Builtin.«object.__class__» shownTypeOf
 repeat lk
 exact hq
structure Dl (K:Frag) (D:Addr):Prop where
 ga:findIn K (.ref D) "__getattribute__" = some (some (.builtin "BaseException.__getattribute__"))
 no:findIn K (.ref D) "__getattr__" = some none
 cl:findIn K (.ref D) "__class__" = some (some (.builtin "object.__class__"))
 bs:subIn K (.ref D) (.type "BaseException")=some true
 ob:mroIn K D (.type "object")=some true
 is:isClsIn K D=true
theorem yI {tk:Tok} {Q:Fin→Shared→Prop} (X:K.In h) (k:Dl K D) (I:vf h x ox D) (hq:Q (.done (.ret (.ref D))) ⟨h,g,d,t,os⟩) :
  wpAny (model prog w) A (Builtin.«object.__getattribute__» ⟨[.ref x,.str "__class__" tk],[]⟩) Q E ⟨h,g,d,t,os⟩:=by
 have hx:=I.at_
 have hc:=I.cls
 have L1:Looks (model prog w) h (typeLookup (.ref D) "__class__") (some (.builtin "object.__class__")):=looks_findIn X k.cl
 have f5:=PySem.W.KF.type_class
 have f6:=F.slot_gs_get.lookup
 have f7:=F.slot_gs_set.lookup
 have hT5:(⟨h,g,d,t,os⟩:Shared).TypeIs (.builtin "object.__class__") "getset_descriptor":=PySem.W.KF.type_class
 repeat (any_goals (first | assumption | (with_reducible refine wpAny_loadPart_at hx ?_; rw [hc]) | (with_reducible refine L1.at ?_) | wp_step))
 refine Fx (ox:=ox) X I k.ob ?_
 repeat (any_goals (first | assumption | wp_step))
theorem Az {nameV:Value} {Q:Unit→Shared→Prop} (X:K.In h) (k:Dl K D) (I:vf h x ox D) (hq:Q () ⟨h,g,d,t,os⟩):wpAny (model prog w) A (checkBuiltinCall "BaseException.__getattribute__" ⟨[.ref x,nameV],[]⟩) Q E ⟨h,g,d,t,os⟩:=by
 have hx:=I.at_
 have hc:=I.cls
 have hk:builtinKind "BaseException.__getattribute__" = some .slot:=by decide +kernel
 have hsplit:splitId "BaseException.__getattribute__" = some ("BaseException", "__getattribute__"):=by decide +kernel
 have L1:Looks (model prog w) h (isSubtype (.ref D) (.type "BaseException")) true:=looks_subIn X k.bs
 have ha:=F.args_bexc_ga (.ref x) nameV
 simp only [checkBuiltinCall,hk,hsplit]
 refine wpAny_bind ?_
 ·unfold isInstance
  repeat (first | (with_reducible refine wpAny_loadPart_at hx ?_; rw [hc]) | (with_reducible refine L1.at ?_) | wp_step)
  exact hq
theorem Ku {tk:Tok} {Q:Value→Shared→Prop} (X:K.In h) (k:Dl K D) (I:vf h x ox D) (hq:Q (.ref D) ⟨h,g,d,t,os⟩):wpAny (model prog w) A (getAttrBy (.ref x) (.str "__class__" tk) false) Q E ⟨h,g,d,t,os⟩:=by
 have hx:=I.at_
 have hc:=I.cls
 have f3:=F.excAttr_ValueError.ga.bind (.ref x)
 have hx0:(false && onTheHeap (Value.builtin "BaseException.__getattribute__"))=false:=rfl
 have hx2:(Value.builtin "BaseException.__getattribute__" == Value.builtin "object.__getattribute__")=false:=by decide +kernel
 have hx1:(onTheHeap (Value.ref D) && Value.builtin "BaseException.__getattribute__" == Value.builtin "object.__getattribute__")=false:=by rw [hx2]; rfl
 have L1:Looks (model prog w) h (typeLookup (.ref D) "__getattribute__") (some (.builtin "BaseException.__getattribute__")):=looks_findIn X k.ga
 have L2:Looks (model prog w) h (typeLookup (.ref D) "__getattr__") none:=looks_findIn X k.no
 repeat (any_goals (first | assumption | (with_reducible refine wpAny_loadPart_at hx ?_; rw [hc]) | (with_reducible refine L1.at ?_) | (with_reducible refine L2.at ?_) | wp_step))
 refine codeAny_call_builtin F.excAttr_ValueError.ga.plain F.entry_bexc_ga (Az X k I (yI X k I ?_))
 repeat (any_goals (first | assumption | wp_step))
theorem DY {Q:Option Value→Shared→Prop} (X:K.In h) (k:Dl K D) (I:vf h x ox D) (hq:Q (some (.ref D)) ⟨h,g,d,t+1,os⟩):wpAny (model prog w) A (getAttr? (.ref x) "__class__") Q E ⟨h,g,d,t,os⟩:=by
 unfold getAttr? getAttrBy?
 refine wpAny_bind (wpAny_mkText (wpAny_bind (wpAny_attempt (Ku X k I ?_))))
 exact wpAny_pure hq
theorem tY {s:Shared} {c:Value} {dep:Int} {tk:Tok} {Q:Fin→Shared→Prop} (X:K.In s.heap) (k:Dl K D) (I:vf s.heap x ox D) (hty:Looks (model prog w) s.heap (typeOf c) (.type "type")) (his:Looks (model prog w) s.heap (isType c) true)
  (hne:(Value.ref D == c)=false) (hsub:Looks (model prog w) s.heap (isSubtype (.ref D) c) false) (h:Q (.done (.ret (.bool false))) { s with toks:=s.toks+1 }) :
  wpAny (model prog w) A (Builtin.«isinstance.nested» ⟨[.ref x,c,.int dep tk],[]⟩) Q E s:=by
 have hisD:Looks (model prog w) s.heap (isType (.ref D)) true:=by
  have hcD:=k.is
  unfold isClsIn clsIn at hcD
  split at hcD
  ·rename_i ho
   intro A' Q' E' s' kk q
   unfold isType loadHead
   exact wpAny_bind (wpAny_loadPart (kk _ _ (X _ _ ho)) (wpAny_pure q))
  ·cases hcD
 obtain ⟨h0,g,d,tt,os⟩:=s
 have L0:=I.type (M:=model prog w)
 have LI:Looks (model prog w) h0 (isInstance (.ref x) c) false:=L0.andThen hsub
 unfold Builtin.«isinstance.nested»
 refine wpAny_bind (L0.at ?_)
 rw [if_neg (fun q=>by rw [hne] at q; exact Bool.noConfusion q)]
 refine wpAny_bind (hty.at ?_)
 rw [if_pos (by decide)]
 k_delta "plainIsInstance"
 refine wpAny_bind (wpAny_bind (his.at ?_))
 simp only [Bool.not_true,Bool.false_eq_true,if_false]
 refine wpAny_bind (LI.at ?_)
 simp only [Bool.false_eq_true,if_false]
 refine wpAny_bind (DY X k I ?_)
 refine wpAny_bind (hisD.at ?_)
 simp only [Bool.not_true,Bool.false_eq_true,if_false]
 refine wpAny_bind (wpAny_rule ?_)
 refine hsub.at ?_
 first
  | exact wpAny_pure h
  | exact wpAny_pure (wpAny_pure h)
  | exact wpAny_bind (wpAny_pure (wpAny_pure h))
theorem yd {s:Shared} {Q:Value→Shared→Prop} (X:K.In s.heap) (k:Dl K D) (I:vf s.heap x ox D) (e:kin_not K D C=true) (h:Q (.bool false) { s with toks:=s.toks+1 }) :
  wpAny (model prog w) A (call (.builtin "isinstance") [.ref x,.ref C]) Q E s:=by
 unfold kin_not at e
 rw [Bool.and_eq_true,Bool.and_eq_true,Bool.and_eq_true] at e
 obtain ⟨⟨⟨e0,e1⟩,e2⟩,e3⟩:=e
 refine call_isinstance (S:=fun _ R s=>(K.In s.heap∧vf s.heap x ox D)∧R (.ok (.ret (.bool false))) { s with toks:=s.toks+1 })
  (fun _ _ _ _ _ hs=>isinstance_outer (tY hs.1.1 k hs.1.2 (looks_typeIn hs.1.1 (beq_iff_eq.mp e2)) ?_ ?_ (looks_subIn hs.1.1 (beq_iff_eq.mp e3)) hs.2) (by intro q; cases q)) ⟨⟨X,I⟩,h⟩
 ·have X':=hs.1.1
  unfold clsIn at e1
  split at e1
  ·rename_i ho
   intro A' Q' E' s' kk q
   unfold isType loadHead
   exact wpAny_bind (wpAny_loadPart (kk _ _ (X' _ _ ho)) (wpAny_pure q))
  ·cases e1
 ·exact Bool.eq_false_iff.mpr fun q=>of_decide_eq_true e0 (Value.ref.inj (beq_iff_eq.mp q))
theorem sX {s:Shared} {T:String} {dep:Int} {tk:Tok} {Q:Fin→Shared→Prop} (X:K.In s.heap) (I:vf s.heap x ox D) (hty:typeOf (.type T)=pure (.type "type")) (hs:subIn K (.ref D) (.type T)=some true)
  (h:Q (.done (.ret (.bool true))) s):wpAny (model prog w) A (Builtin.«isinstance.nested» ⟨[.ref x,.type T,.int dep tk],[]⟩) Q E s:=by
 obtain ⟨h0,g,d,tt,os⟩:=s
 have L0:=I.type (M:=model prog w)
 have hsub:Looks (model prog w) h0 (isSubtype (.ref D) (.type T)) true:=looks_subIn X hs
 have LI:Looks (model prog w) h0 (isInstance (.ref x) (.type T)) true:=L0.andThen hsub
 have hty':Looks (model prog w) h0 (typeOf (.type T)) (.type "type"):=Looks.of_pure hty
 have his:Looks (model prog w) h0 (isType (.type T)) true:=Looks.of_pure rfl
 unfold Builtin.«isinstance.nested»
 refine wpAny_bind (L0.at ?_)
 rw [if_neg (fun q=>by cases beq_iff_eq.mp q)]
 refine wpAny_bind (hty'.at ?_)
 rw [if_pos (by decide)]
 k_delta "plainIsInstance"
 refine wpAny_bind (wpAny_bind (his.at ?_))
 simp only [Bool.not_true,Bool.false_eq_true,if_false]
 refine wpAny_bind (LI.at ?_)
 simp only [if_true]
 first
  | exact wpAny_pure h
  | exact wpAny_pure (wpAny_pure h)
  | exact wpAny_bind (wpAny_pure (wpAny_pure h))
theorem Ca {s:Shared} {T:String} {Q:Value→Shared→Prop} (X:K.In s.heap) (I:vf s.heap x ox D) (hty:typeOf (.type T)=pure (.type "type")) (e:subIn K (.ref D) (.type T)=some true) (h:Q (.bool true) s) :
  wpAny (model prog w) A (call (.builtin "isinstance") [.ref x,.type T]) Q E s :=
 call_isinstance (S:=fun _ R s=>(K.In s.heap∧vf s.heap x ox D)∧R (.ok (.ret (.bool true))) s)
  (fun _ _ _ _ _ hs=>isinstance_outer (sX hs.1.1 hs.1.2 hty e hs.2) (by intro q; cases q)) ⟨⟨X,I⟩,h⟩
end
theorem wI {K:Frag} {D C:Addr} (hn:D≠C) (hc:isClsIn K C=true) (ht:typeIn K (.ref C)=some (.type "type")) (hs:subIn K (.ref D) (.ref C)=some false):kin_not K D C=true:=by
 unfold kin_not
 unfold isClsIn at hc
 rw [decide_eq_true hn,hc,ht,hs]
 rfl
def IsX (K:Frag) (D:Addr) (c:V) (b:Bool):Prop:=(∃ C,c=.ref C∧((b=true∧isIn K (.ref D) C=true)∨(b=false∧Dl K D∧kin_not K D C=true)))∨(∃ T,c=.ty T∧b=true∧typeOf (.type T)=pure (.type "type")∧subIn K (.ref D) (.type T)=some true)
def QF (K:Frag):List V→Hp→VK→Prop:=fun xs H Q=>∃ e T D c b,xs=[.ref e,c]∧H e=some (mK (.ref D) T e)∧IsX K D c b∧Q (.bl b) H
theorem bO {X:Cx}:fQ X (.builtin "isinstance") (QF X.K):=by
 intro pins s σ H xs us Q I r h
 obtain ⟨e,T,D,c,b,rfl,he,k,q⟩:=h
 obtain ⟨u,v,rfl,ru,rv⟩:=vals2 r
 cases ru
 obtain ⟨oe,vs,a0,h1,h2,_⟩:ExcAt (.ref D) T e s.heap:=(I.hok e _ he).1
 have O:vf s.heap e oe D:=⟨h1,h2⟩
 rcases k with ⟨C,rfl,⟨rfl,k⟩ | ⟨rfl,k1,k2⟩⟩ | ⟨Ty,rfl,rfl,k1,k2⟩
 ·cases rv
  exact isi_call I.kIn (fun M=>O.type) k (fun z=>nomatch z) ⟨.bl true,H,I,rfl,q⟩
 ·cases rv
  exact yd I.kIn k1 O k2 ⟨.bl false,H,I.tok _,rfl,q⟩
 ·cases rv
  exact Ca I.kIn O k1 k2 ⟨.bl true,H,I,rfl,q⟩
end L2
namespace L2
open PySem PySem.Spec PyProof.Rows
def K4 (E:XK):XK:=fun cls o H'=>∀ e,o=some e→∀ T',H' T'=none→E cls o (xH H' T' e cls)
theorem fj {P:Program} {w:World} {K:PySem.W.Frag} {mg:Str→Option Value} {base:Heap} {N:List Str} {qual:Str} {scope:Scope} {f:Addr} {cd:Value} {A:Around} {outer:List Env} {s0:Shared} {H0:Hp} {E:XK} :
  jk (CX1 P w) (uy (CX1 P w) P w K mg base N qual scope f cd A outer s0 H0 E) fun _=>K4 E:=(Jr (K4 E) fun cls e T H' _ h T' n=>h e rfl T' n).s
def cJ (C:Addr) (H:Hp) (E:XK):Prop:=∀ (e T:Addr) (H':Hp),Same H H'→H e=none→H' e=some (mK (.ref C) T e)→E (.ref C) (some e) H'
theorem tL {H H1:Hp} {T e:Addr} {cls:Value} (s:Same H H1) (he:H e=none) (hT:H1 T=none):Same H (xH H1 T e cls):=fun b o h=>by
 have hbe:b≠e:=fun z=>by subst z; rw [he] at h; cases h
 have hbT:b≠T:=fun z=>by subst z; rw [s _ _ h] at hT; cases hT
 show upd (upd H1 T (TrO T)) e (mK cls T e) b=some o
 rw [aF hbe,aF hbT]; exact s b o h
section
variable {C:Addr} {H H1:Hp} {E:XK}
theorem cJ.up (h:cJ C H E) (s:Same H H1):cJ C H1 E:=fun e T H' s' he hx=>h e T H' (s.trans s') (s.free he) hx
theorem cJ.made (h:cJ C H E) {e T:Addr} (he:H e=none) (hT:H T=none):E (.ref C) (some e) (xH H T e (.ref C)):=h e T _ (tL (Same.refl H) he hT) he ak
theorem cJ.out (h:cJ C H E):cJ C H (K4 E):=fun e T H' s he hx e' z T' n=>by
 cases z
 exact h e T' _ (tL s he n) he ak
theorem wH {R:XR} {σ:St} (h:∀ (e T:Addr) (H':Hp),Same H H'→H e=none→H' e=some (mK (.ref C) T e)→R (.ref C) e σ H'):cJ C H (fun cls o H'=>∀ e,o=some e→R cls e σ H'):=fun e T H' s he hx e' z=>by
 cases z
 exact h e T H' s he hx
end
structure Fn1 (P:Program) (w:World) (K:PySem.W.Frag) (mg:Str→Option Value) (base:Heap) (f:Addr) (k:Nat) (ps:List Str) (sp:Sp):Prop where
 ex:∃ (fd:FuncData),jQ P w K mg base (CX1 P w) k f fd ps sp∧Binds K fd ps []∧PySem.W.keepIn K (.ref f)=true
theorem jP.fn {P:Program} {w:World} {K:PySem.W.Frag} {mg:Str→Option Value} {base:Heap} {x:Str} {k:Nat} {ps:List Str} {sp:Sp} (C:jP P w K mg base x k ps sp):∃ f,mg x=some (.ref f)∧Fn1 P w K mg base f k ps sp:=by
 obtain ⟨f,fd,F,b,kp,m⟩:=C.ex
 exact ⟨f,m,fd,F,b,kp⟩
def Mw (P:Program) (w:World) (K:PySem.W.Frag) (mg:Str→Option Value) (base:Heap) (n i:Nat) (E:St→XK) (t:TA):TE:=fun σ H Q=>∃ (f:Addr) (k:Nat) (ps:List Str) (sp:Sp),σ[i]?=some (some (.ref f))∧Fn1 P w K mg base f k ps sp∧k≤n∧t σ H fun vs H1=>sp vs H1 Q (E σ)
theorem Ah {X:Cx} {x:Str} {n i:Nat} {E:St→XK} {e:Expr} {es:List Expr} {t:TA} {p pos:Pos} (hr:jf n X.A) (hv:PE X (.Name x p) (qU i)) (hx:jk (CX1 X.prog X.w) X E) (ha:PA X (e :: es) t)
  (he:starEach (e :: es) X.env=(false,eval e X.env) :: starEach es X.env:=by rfl) (hpl:(backTo pos (starEach es X.env)).any (·.1)=false:=by rfl) :
  PE X (.Call (.Name x p) (e :: es) [] pos) (Mw X.prog X.w X.K X.mg X.base n i E t):=by
 intro pins s σ H Q I h
 obtain ⟨f,k,ps,sp,hσ,⟨fd,F,b,kp⟩,hk,h⟩:=h
 refine wpAny_Call_Name_kw (thn (hv pins s σ H (fun v H'=>v=.ref f∧H'=H) I ⟨_,hσ,rfl,rfl⟩) fun u s0 ⟨v,H0,I0,r0,e1,e2⟩=>?_)
 subst e1 e2
 cases r0
 refine PySem.W.callWith_K (h₀:=X.base) I0.ok.mod.kin kp (thn (ha pos pins s0 σ H0 _ I0 h) fun us s1 ⟨vs,H1,I1,r,q⟩=>⟨I1.kIn,?_⟩) he hpl
 have hl:us.length=ps.length:=by rw [← r.length]; exact F.len _ _ _ _ q
 refine wpAny_call (codeAny_mono ((F.mono hk).run X.A X.stack s1 H1 ⟨us,[]⟩ us vs Q (E σ) hr I1.env0 (by have:=b s1 us I1.kIn (by rw [List.append_nil]; exact hl); rw [List.append_nil] at this; exact this) r q) fun r s' hq=>?_)
 cases r with
 | error e=>exact hx pins σ H1 s1 e s' I1 hq
 | ok fl =>
  cases fl with
  | ret u=>exact I1.after hq
  | next=>exact False.elim hq
  | brk=>exact False.elim hq
  | cont=>exact False.elim hq
abbrev QJ (R:XR):St→XK:=fun σ cls o H'=>∀ e,o=some e→R cls e σ H'
theorem Ec {X:Cx} {pins:List (Addr × Obj)} {R:XR} {x:Str} {k n:Nat} {ps:List Str} {sp:Sp} {e:Expr} {es:List Expr} {t:TA} {p pos:Pos} (C:jP X.prog X.w X.K X.mg X.base x k ps sp) (hr:jf n X.A) (hk:k≤n) (hg:Gl X x) (ha:PA (mG X pins R) (e :: es) t)
  (hdb:(x == ("__debug__" : Str))=false:=by decide) (he:starEach (e :: es) X.env=(false,eval e X.env) :: starEach es X.env:=by rfl) (hpl:(backTo pos (starEach es X.env)).any (·.1)=false:=by rfl) :
  PE (mG X pins R) (.Call (.Name x p) (e :: es) [] pos) (Gi sp (QJ R) t):=fM (X:=mG X pins R) C hr hk hg HW ha hdb he hpl
theorem Hs {X:Cx}:jk (CX1 X.prog X.w) X fun _ _ _ _=>False:=fun _ _ _ _ _ _ _ h=>by
 obtain ⟨_,_,_,_,_,_,_,_,_,_,_,_,q⟩:=h
 exact q.elim
end L2
namespace L2
open PySem PySem.Spec PyProof.Rows
def Qw (c:Addr) (q:Str):HO:=.ext fun h=>h.CodeRec (.ref c) q
def del (H:Hp) (c:Addr):Hp:=fun b=>if b=c then none else H b
section
variable {P:Program} {w:World} {H H':Hp} {h h':Heap} {c:Addr} {o:Obj} {fs:List Addr}
variable {outer:List Env} {s s':Shared} {Q:VK} {u:Value} {E:XK} {e:Value}
end
section
variable {P:Program} {w:World} {K:PySem.W.Frag} {mg:Str→Option Value} {base:Heap} {N:List Str} {qual:Str} {scope:Scope} {f:Addr} {cd:Value} {cl:List (Str × Addr)} {A:Around} {outer:List Env} {s0:Shared} {H0:Hp} {E:XK}
end
structure Q8 (mg:Str→Option Value) (base:Heap) (c P:Addr):Prop where
 hd:PySem.W.CodeHd base c P
 gP:mainGlobals≠P
 blt:base.BuiltinsAt mg P
def Rp (P:Addr) (pos:Pos) (qual:Str) (H:Hp):Prop:=∃ ps,H P=some (.tbl ps)∧(ps = #[]∨∃ c',ps = #[rawInt pos.line,rawInt pos.col,.ref c']∧H c'=some (Qw c' qual))
end L2
namespace L2
open PySem PySem.Spec PyProof.Rows
theorem rm {y:V}:∀ {xs:List V} {us:List Value},Vals xs us→xs.all ig=true→us.countP (eqU y)=xs.countP fun z=>eqV z y
 | _,_,.nil,_=>rfl
 | x :: xs,u :: us,.cons r t,f=>by
  rw [List.all_cons,Bool.and_eq_true] at f
  rw [List.countP_cons,List.countP_cons,uM r f.1,rm t f.2]
theorem yK {X:Cx}:MtR X "list.count" (fun x xs H Q=>∃ (l:Addr) (ys:List V) (y:V),x=.ref l∧xs=[y]∧H l=some (.lst ys)∧ig y=true∧ys.all ig=true∧Q (.int (ys.countP (fun z=>eqV z y):Nat)) H):=by
 intro pins s σ H x xs v us Q I rx rv h
 obtain ⟨l,ys,y,rfl,rfl,hH,fy,fs,q⟩:=h
 cases rx
 obtain ⟨u,rfl,ru⟩:=rv.one
 obtain ⟨z,its,n,r,hl,e⟩:=I.lstM hH
 refine call_meets F.slot_list_count ⟨_,e,rfl⟩ F.entry_list_count (F.args_list_count_2 _ _) (SeqAt.list_countAt l its.toArray n none #[] u (eqU y)) ⟨e,fun w hw=>iG ru fy r fs w (by simpa using hw),?_⟩
 rw [show its.toArray.toList=its from rfl,rm r fs]
 exact ⟨.int _,H,I.tok _,⟨_,rfl⟩,q⟩
theorem Bp {X:Cx}:MtR X "list.index" (fun x xs H Q=>∃ (l:Addr) (ys:List V) (y w:V) (j:Nat),x=.ref l∧xs=[y]∧H l=some (.lst ys)∧ig y=true∧ys.all ig=true∧ys[j]?=some w∧eqV w y=true∧(∀ i z,i < j→ys[i]?=some z→eqV z y=false)∧Q (.int (j:Nat)) H):=by
 intro pins s σ H x xs v us Q I rx rv h
 obtain ⟨l,ys,y,w,j,rfl,rfl,hH,fy,fs,hj,hw,hno,q⟩:=h
 cases rx
 obtain ⟨u,rfl,ru⟩:=rv.one
 obtain ⟨z,its,n,r,hl,e⟩:=I.lstM hH
 have hjl:j < ys.length:=(List.getElem?_eq_some_iff.mp hj).1
 have at_:∀ (i:Nat) (hi:i < its.length) (z:V),ys[i]?=some z→eqU y its[i]=eqV z y:=fun i hi z hz=>by
  obtain ⟨u',h1,h2⟩:=r.get hz
  rw [List.getElem?_eq_getElem hi] at h1
  cases h1
  exact uM h2 (List.all_eq_true.mp fs z (List.mem_of_getElem? hz))
 have hz:=nM
 refine call_meets F.slot_list_index ⟨_,e,rfl⟩ F.entry_list_index (F.args_list_index_2 _ _) (SeqAt.list_indexAt l its.toArray n none #[] u (eqU y) j (by rw [List.size_toArray]; omega) (by omega) ?_ ?_) ⟨e,fun w hw=>iG ru fy r fs w (by simpa using hw),?_⟩
 ·show eqU y its[j]=true
  rw [at_ j (by omega) w hj]; exact hw
 ·intro m hm hlt
  show eqU y its[m]=false
  have hm':m < its.length:=by simpa using hm
  have hm2:m < ys.length:=by omega
  rw [at_ m hm' ys[m] (List.getElem?_eq_getElem hm2)]
  exact hno m _ hlt (List.getElem?_eq_getElem hm2)
 ·exact ⟨.int _,H,I.tok _,⟨_,rfl⟩,q⟩
structure J8 (k:Nat) (A:Around):Prop where
 dp:A.depth+3 * k+5 < recursionLimit
 un:A.units+16 * k+200 < cLine
theorem jf.q {k:Nat} {A:Around} (r:jf k A) (e:Option Value):J8 k (A.mark e):=⟨r.dp,r.un⟩
structure Rt (P:Program) (w:World) (K:PySem.W.Frag) (mg:Str→Option Value) (base:Heap) (x:Str) (k:Nat) (ps:List Str) (sp:Sp):Prop where
 ex:∃ (f:Addr) (fd:FuncData),((∀ vs H Q E,sp vs H Q E→vs.length=ps.length)∧∀ (A:Around) (outer:List Env) (s:Shared) (H:Hp) (args:Args) (us:List Value) (vs:List V) (Q:VK),J8 k A→J1 P w K mg base A outer s H→BindsTo s fd args (ps.zip us)→Vals vs us→sp vs H Q E0 →
  codeAny (model P w) A (.call (.ref f) args) (CR CX0 outer P w H s Q E0) s)∧Binds K fd ps []∧PySem.W.keepIn K (.ref f)=true∧mg x=some (.ref f)
end L2
namespace L2
open PySem PySem.Spec PyProof.Rows
open AutoSeq1 (wpAny_loadPart')
section
variable {prog:Program} {w:World} {A:Around} {E:Value→Shared→Prop} {s:Shared}
end
section
variable {prog:Program} {w:World} {A:Around} {E:Value→Shared→Prop} {s:Shared}
end
section
variable {X:Cx}
end
end L2
namespace ZTL
open PySem
open ZT (Apart Fp Ij)
open Sem (wp)
section
variable {prog:Program} {w:World} {A:Around} {E:Value→Shared→Prop} {s:Shared}
end
end ZTL
namespace L2
open PySem PySem.Spec PyProof.Rows
end L2
namespace L2
open PySem PySem.Spec PyProof.Rows
end L2
namespace L2
open PySem PySem.Spec PyProof.Rows
theorem Cu {ns:List Int} {its:List Value} (r:Vals (ns.map V.int) its) {i:Nat} {v:Value} (h:its[i]?=some v):∃ t,v=.int (ns.getD i 0) t:=by
 have hi:i < ns.length:=by
  have:=(List.getElem?_eq_some_iff.mp h).1
  have:=r.length
  rw [List.length_map] at this
  omega
 obtain ⟨u,hu,ru⟩:=r.get (i:=i) (x:=.int (ns.getD i 0)) (by rw [List.getElem?_map,List.getElem?_eq_getElem hi,List.getD_eq_getElem?_getD,List.getElem?_eq_getElem hi]; rfl)
 rw [hu] at h
 cases h
 exact ru
end L2
namespace SO
open PySem PySem.W PyProof.Rows
section
variable {O:KeyOrd} {prog:Program} {w:World} {A:Around} {E:Value→Shared→Prop} {s:Shared}
theorem tW {v:Value} {Q:Value→Shared→Prop} (G:List Value→Heap→Nat→Prop)
  (hcol:∀ (Q:List Value→Shared→Prop),(∀ vs g tk,G vs g tk→Q vs { s with heap:=g,toks:=tk })→wpAny (model prog w) A.in1 (collect v) Q E s)
  (hrest:∀ vs g tk,G vs g tk→∃ (key:Nat→O.α) (κ:SortKind),vs.length < 64∧
   (2≤vs.length→∀ h',Keeps g h'→∀ (E:Value→Shared→Prop) (Q:SortKind→Shared→Prop),Q κ { s with heap:=h',toks:=tk }→wpAny (model prog w) A.in1.in1 (keyKind' vs.toArray) Q E { s with heap:=h',toks:=tk }) ∧
   (∀ h',Keeps g h'→Cmp key vs.length (kas_ask prog w A.in1.in1 κ vs) { s with heap:=h',toks:=tk }) ∧
   (∀ (g':Heap) (p:Array Nat),Keeps g g'→InN vs.length p→cL key p vs.length→(∃ n,g'.get? g.objs.size=some (seqObj "list" (List.toArray (p.toList.map fun i=>vs.getD i Value.none)) n))→Q (.ref g.objs.size) { s with heap:=g',toks:=tk })) :
  wpAny (model prog w) A (call (.builtin "sorted") [v]) Q E s:=by
 refine Calls.call_function_entry kind_sorted plain_sorted entry_sorted (args_sorted1 _) ?_
 unfold Builtin.«sorted»
 refine wpAny_bind (m:=checkCount "sorted" 1 1 _) (wpAny_pure ?_)
 refine wpAny_bind (hcol _ fun vs g tk hG=>?_)
 obtain ⟨key,κ,h64,hk,hc,h⟩:=hrest vs g tk hG
 refine wpAny_bind (wpAny_newList ?_ (by rw [sizeLine_eq]; omega))
 have hoL:(g.push (seqObj "list" vs.toArray 0)).get? g.objs.size=some (seqObj "list" vs.toArray 0):=Heap.get?_push_size _ rfl
 have kp:∀ h',(∀ b o,b≠g.objs.size→(g.push (seqObj "list" vs.toArray 0)).get? b=some o→h'.get? b=some o)→Keeps g h':=fun h' k b o q=>by
  exact k b o (Nat.ne_of_lt (Heap.lt_size q)) (Heap.get?_push_of_some _ q)
 show wpAny _ _ _ _ _ { s with heap:=g.push (seqObj "list" vs.toArray 0),toks:=tk }
 refine wpAny_bind (wpAny_holding (wpAny_call_entry slot_list_sort ⟨_,hoL,rfl⟩ entry_list_sort (qx (s:={ s with heap:=g.push (seqObj "list" vs.toArray 0),toks:=tk }) key κ hoL h64 (fun z h' k Q q=>hk z h' (kp h' k) _ Q q) (fun h' k=>hc h' (kp h' k)) fun p a1 a2=>⟨_,rfl,?_⟩) (args_list_sort _)))
 refine wpAny_pure ⟨_,rfl,h _ p (kp _ fun b o hb q=>?_) a1 a2 ?_⟩
 ·unfold sortedHeap
  have hlt:b < (g.push (seqObj "list" vs.toArray 0)).objs.size:=Heap.lt_size q
  rw [Heap.get?_update_ne _ _ _ _ hb,Heap.get?_push_ne _ _ _ (by rw [size_push',Heap.size_update]; exact Nat.ne_of_lt (Nat.lt_succ_of_lt hlt)),Heap.get?_push_ne _ _ _ (by rw [Heap.size_update]; exact Nat.ne_of_lt hlt),Heap.get?_update_ne _ _ _ _ hb]
  exact q
 ·unfold sortedHeap
  have ha:g.objs.size < (g.push (seqObj "list" vs.toArray 0)).objs.size:=Heap.lt_size hoL
  obtain ⟨e1,ho1⟩:∃ e1,((g.push (seqObj "list" vs.toArray 0)).update g.objs.size (Obj.mapSeq fun _=>#[])).get? g.objs.size=some (seqObj "list" #[] e1):=⟨_,get?_update_seq hoL (fun _=>#[])⟩
  have ho6:((((g.push (seqObj "list" vs.toArray 0)).update g.objs.size (Obj.mapSeq fun _=>#[])).push (seqObj "tuple" vs.toArray 0)).push (seqObj "list" #[] 0)).get? g.objs.size=some (seqObj "list" #[] e1):=by
   rw [Heap.get?_push_ne _ _ _ (by rw [size_push',Heap.size_update]; exact Nat.ne_of_lt (Nat.lt_succ_of_lt ha)),Heap.get?_push_ne _ _ _ (by rw [Heap.size_update]; exact Nat.ne_of_lt ha)]
   exact ho1
  exact ⟨_,get?_update_seq ho6 _⟩
end
end SO
namespace L2
open PySem PySem.Spec PyProof.Rows
def intΦ (w:World) (a:Addr) (ns:List Int):Heap→Prop:=fun h=>ST.uY w h a ns
theorem pK {ns:List Int}:∀ i,i≤ns.length→(SX.rK (fun i=>ns.getD i 0) i).Nodup∧∀ k,k∈SX.rK (fun i=>ns.getD i 0) i↔k∈ns.take i
 | 0,_=>⟨List.nodup_nil,fun k=>by rw [List.take_zero]; exact Iff.rfl⟩
 | i+1,hi=>by
  obtain ⟨h1,h2⟩:=pK (ns:=ns) i (by omega)
  have e:ns.take (i+1)=ns.take i++[ns.getD i 0]:=by
   rw [List.take_succ_eq_append_getElem (by omega),List.getD_eq_getElem?_getD,List.getElem?_eq_getElem (by omega)]
   rfl
  show (ST.BP (SX.rK (fun i=>ns.getD i 0) i) (ns.getD i 0)).Nodup∧_
  rw [e]
  unfold ST.BP
  refine ⟨?_,fun k=>?_⟩
  ·split
   ·exact h1
   ·rename_i z
    exact List.nodup_cons.mpr ⟨z,h1⟩
  ·show k∈ST.BP (SX.rK (fun i=>ns.getD i 0) i) (ns.getD i 0)↔_
   unfold ST.BP
   rw [List.mem_append,List.mem_singleton,← h2 k]
   split
   ·rename_i z
    exact ⟨.inl,fun h=>h.elim id fun e=>by rw [e]; exact z⟩
   ·rw [List.mem_cons]
    exact ⟨fun h=>h.symm,fun h=>h.symm⟩
def M8 (K:PySem.W.Frag) (w:World):List V→Hp→VK→Prop:=fun xs H Q=>∃ (p:Addr) (ns:List Int),xs=[.ref p]∧SqL K H p (ns.map V.int)∧ns.length≤1001∧∀ (a:Addr) (ms:List Int),H a=none→ms.Nodup→(∀ k,k∈ms↔k∈ns)→ms.length≤ns.length→Q (.ref a) (upd H a (.ext (intΦ w a ms)))
theorem BL {X:Cx} (hc:X.calm=true):fQ X (.type "set") (M8 X.K X.w):=by
 intro pins s σ H xs us Q I r h
 obtain ⟨p,ns,rfl,hp,hz,q⟩:=h
 obtain ⟨u,rfl,rx⟩:=vals1 r
 cases rx
 obtain ⟨its,rv,pl,hzz⟩:=I.list hp
 have hil:=rv.length
 rw [List.length_map] at hil
 have hsz:its.toArray.size=ns.length:=by simp; omega
 refine SX.ou (val:=fun i=>ns.getD i 0) (I.ok.hd hc) pl.isList (fun i v hv=>Cu rv (by simpa using hv)) (by rw [hsz]; omega) fun g tk hS kp=>?_
 rw [hsz] at hS
 obtain ⟨h1,h2⟩:=pK (ns:=ns) ns.length (Nat.le_refl _)
 have h3:=SX.jW (val:=fun i=>ns.getD i 0) (i:=ns.length)
 generalize SX.rK (fun i=>ns.getD i 0) ns.length=ms at hS h1 h2 h3
 rw [List.take_length] at h2
 refine ⟨.ref s.heap.objs.size,_,I.laid (t':=tk) (o:=.ext (intΦ X.w s.heap.objs.size ms)) (fun b o e=>kp b o (Heap.lt_size e) e) (Nat.le_refl _) ?_,rfl,q _ ms I.fresh h1 h2 (by omega)⟩
 refine ⟨hS,?_,fun h1 h2 hh k=>SX.pF hh k⟩
 obtain ⟨o,_,_,_,_,eo,_⟩:=hS.ex
 exact ⟨o,eo⟩
theorem DG {prog:Program} {w:World} {A:Around} {E:Value→Shared→Prop} {s:Shared} {S:Addr} {Q:List Value→Shared→Prop} {ns:List Int} (hh:A.handled=none) (hS:ST.uY w s.heap S ns)
  (h:∀ (g:Heap) (tk:Nat) (kts:List (Int × Tok)),(kts.map (·.1)).Perm ns→(∀ b u,s.heap.get? b=some u→g.get? b=some u)→Q (kts.map fun p=>.int p.1 p.2) { s with heap:=g,toks:=tk }):wpAny (model prog w) A (collect (.ref S)) Q E s:=by
 obtain ⟨o,es,ep,t,kts,ho,hex,hd,hT,hrm,hpl,hld,hmk,hp,hE⟩:=hS.ex
 have hf:t.fits es.size=true:=by
  unfold SetTable.fits SetTable.fill
  rw [hT.d,hT.sz]
  have:=hT.room
  simp
  exact this
 refine SI.rU hh ho hex.1 hd hf hT.sz hT.up hpl (fun z=>hld.resolve_left fun y=>absurd (y.symm.trans z) (by decide)) (by have:=hT.room; rw [sizeLine_eq]; omega) fun g tk hk=>?_
 have hpe:(SI.ord w S es ep).toList.Perm (kts.map ST.LR):=by
  rw [← hE]
  exact SI.uL
 obtain ⟨ks2,k1,k2⟩:=ST.tX hpe.symm rfl
 have:=h g tk ks2 ((k1.map (·.1)).trans hp) hk
 rw [k2,List.map_map]
 exact this
theorem Eu (ns:List Int):Hom (ns.map D.int):=by
 refine ⟨fun d hd e he=>?_,.inl fun d hd=>?_⟩
 ·obtain ⟨a,_,rfl⟩:=List.mem_map.mp hd
  obtain ⟨b,_,rfl⟩:=List.mem_map.mp he
  exact trivial
 ·obtain ⟨a,_,rfl⟩:=List.mem_map.mp hd
  exact ⟨_,rfl⟩
theorem GR:∀ kts:List (Int × Tok),Vals ((kts.map (·.1)).map V.int) (kts.map fun p=>Value.int p.1 p.2)
 | []=>.nil
 | p :: r=>.cons ⟨_,rfl⟩ (GR r)
def zW (w:World):List V→Hp→VK→Prop:=fun xs H Q=>∃ (p:Addr) (ms:List Int),xs=[.ref p]∧H p=some (.ext (intΦ w p ms))∧ms.length < 64 ∧
 ∀ (l:Addr) (ns:List Int),H l=none→ns.Perm ms→ns.Pairwise (· ≤ ·)→Q (.ref l) (upd H l (.lst (ns.map V.int)))
theorem oN {X:Cx} (hc:X.calm=true) (hu:X.A.units+64 < cLine):fQ X (.builtin "sorted") (zW X.w):=by
 intro pins s σ H xs us Q I r h
 obtain ⟨p,ms,rfl,hp,hz,q⟩:=h
 obtain ⟨u,rfl,rx⟩:=vals1 r
 cases rx
 have hS:ST.uY X.w s.heap p ms:=(I.hok _ _ hp).1
 refine SO.tW (O:=JR) (fun its g tk=>∃ kts:List (Int × Tok),(kts.map (·.1)).Perm ms∧its=kts.map (fun p=>Value.int p.1 p.2)∧∀ b o,s.heap.get? b=some o→g.get? b=some o)
  (fun Q' q'=>DG (by first | exact I.ok.hd hc | simp [I.ok.hd hc]) hS fun g tk kts hpm kp=>q' _ _ _ ⟨kts,hpm,rfl,kp⟩) ?_
 rintro its g tk ⟨kts,hpm,rfl,kp⟩
 have I5:Inv X pins σ H { s with heap:=g,toks:=tk }:=I.kept (t':=tk) kp
 have hn:kts.length=ms.length:=by
  have:=hpm.length_eq
  rw [List.length_map] at this
  exact this
 have hD':bI H ((kts.map (·.1)).map V.int) ((kts.map (·.1)).map D.int):=by
  generalize kts.map (·.1)=l
  induction l with
  | nil=>exact trivial
  | cons a l ih=>exact ⟨rfl,ih⟩
 have rv:=GR kts
 have hpd:((kts.map (·.1)).map D.int).Perm (ms.map D.int):=hpm.map _
 obtain ⟨κ,hk2,hcm⟩:=QD hu I5 hD' rv (Eu _) (by rw [List.length_map,List.length_map]; omega) (fun d hd=>by
  obtain ⟨a,_,rfl⟩:=List.mem_map.mp hd
  exact ⟨(fun z=>nomatch z),fun _ z=>nomatch z⟩)
 have hle:(kts.map fun p=>Value.int p.1 p.2).length=kts.length:=List.length_map _
 have hle2:((kts.map (·.1)).map V.int).length=kts.length:=by rw [List.length_map,List.length_map]
 have hle3:((kts.map (·.1)).map D.int).length=kts.length:=by rw [List.length_map,List.length_map]
 generalize ((kts.map (·.1)).map D.int)=ds at hD' hpd hcm hle3
 generalize (kts.map fun p=>Value.int p.1 p.2)=its at rv hk2 hcm hle ⊢
 generalize ((kts.map (·.1)).map V.int)=vs at hD' rv hle2
 refine ⟨fun i=>ds.getD i .non,κ,by rw [hle]; omega,fun h2 h' kp' E Q q=>hk2 h2 h' kp' E Q q,fun h' kp'=>hcm h' kp',fun g' pp kp' hpp hs hob'=>?_⟩
 obtain ⟨m,hob'⟩:=hob'
 have hlt:∀ i∈pp.toList,i < kts.length:=fun i hi=>by rw [← hle]; exact List.mem_range.mp (hpp.mem_iff.mp hi)
 have hps:pp.toList.length=kts.length:=by rw [← hle]; simpa using hpp.length_eq
 have hU:=oZ rv pp.toList fun i hi=>by rw [hle2]; exact hlt i hi
 have hDD:=oV hD' pp.toList fun i hi=>by rw [hle3]; exact hlt i hi
 have hPP:(pp.toList.map fun i=>ds.getD i D.non).Perm (ms.map D.int):=by
  refine List.Perm.trans ?_ hpd
  have e:(List.range its.length).map (fun i=>ds.getD i .non)=ds:=by
   apply List.ext_getElem
   ·rw [List.length_map,List.length_range,hle,hle3]
   ·intro i h1 h2
    simp [List.getD_eq_getElem?_getD,h2]
  have:=hpp.map fun i=>ds.getD i D.non
  rw [e] at this
  exact this
 have hUp:UpD (pp.toList.map fun i=>ds.getD i D.non):=by
  unfold UpD
  rw [List.pairwise_iff_getElem]
  intro i j hi hj hij
  have h:=hs i j (Nat.le_of_lt hij) (by rw [hle,← hps]; simpa using hj)
  have e:∀ k (hk:k < pp.toList.length),SO.KN (O:=JR) (fun i=>ds.getD i .non) pp k=(pp.toList.map fun i=>ds.getD i D.non)[k]'(by rw [List.length_map]; exact hk):=by
   intro k hk
   have hk':k < pp.size:=by simpa using hk
   unfold SO.KN
   rw [List.getElem_map]
   congr 1
   simp [Array.getD,hk']
  rw [e i (by simpa using hi),e j (by simpa using hj)] at h
  exact h
 obtain ⟨ns,hn1,hn2⟩:=ST.tX hPP.symm rfl
 rw [hn2] at hDD hUp
 have hus:=vN hDD
 have hup:ns.Pairwise (· ≤ ·):=by
  unfold UpD at hUp
  rw [List.pairwise_map] at hUp
  refine hUp.imp fun {a b} h=>?_
  rw [uh] at h
  exact Int.not_lt.mp (of_decide_eq_false h)
 rw [hus] at hU
 refine ⟨.ref _,_,I5.laid (t':=tk) (o:=.lst (ns.map V.int)) kp' (Nat.le_refl _) ⟨?_,_,m,hU,hob'⟩,rfl,q _ ns (I5.hok.fresh (Nat.le_refl _)) hn1 hup⟩
 rw [List.length_map,hn1.length_eq,sizeLine_eq]
 omega
theorem Bv:∀ {a b:List Int},a.Pairwise (· < ·)→b.Pairwise (· ≤ ·)→b.Nodup→(∀ k,k∈b↔k∈a)→b=a:=by
 intro a b ha hb hn hm
 have hb':b.Pairwise (· < ·):=by
  have:=List.Pairwise.and hb (List.nodup_iff_pairwise_ne.mp hn)
  exact this.imp fun {x y} h=>by omega
 exact (List.perm_ext_iff_of_nodup hn (ha.imp fun {x y} h=>by omega)).mpr hm |>.eq_of_pairwise (le:=(· < ·)) (fun x y _ _ h1 h2=>by omega) hb' ha
end L2
namespace L2
open PySem PySem.Spec PyProof.Rows
section
variable {prog:Program} {w:World} {A:Around} {E:Value→Shared→Prop} {s:Shared}
theorem wg {g l:Addr} {its:Array Value} (hne:l≠g):∀ (n i:Nat) (s:Shared) (Q:List Value→Shared→Prop),s.heap.IsListIter g l i→s.heap.IsList l its→i+n≤its.size →
  (∀ h',h'.IsListIter g l (i+n)→Heap.SameBut g s.heap h'→Q ((its.toList.drop i).take n) { s with heap:=h' })→wpAny (model prog w) A (draw (.ref g) n) Q E s
 | 0,i,s,Q,hg,_,_,q=>wpAny_pure (by
   have:=q s.heap hg (Heap.SameBut.refl ..)
   rwa [List.take_zero] at this)
 | n+1,i,s,Q,hg,hl,hle,q=>by
  have lt:i < its.size:=Nat.lt_of_lt_of_le (by omega) hle
  refine wpAny_bind (wpAny_pyNext_list_item hg hl (x:=its[i]) (Array.getElem?_eq_getElem lt) fun ha ga sa=>?_)
  refine wpAny_bind (wpAny_holding (wg hne n (i+1) _ _ ga (hl.extBut sa.extBut hne) (by omega) fun hb gb sb=>wpAny_pure ?_))
  have z:=q hb (by rw [Nat.add_comm n 1,← Nat.add_assoc]; exact gb) (sa.trans sb)
  have e:its.toList.drop i=its[i] :: its.toList.drop (i+1):=List.drop_eq_getElem_cons (by simpa using lt)
  rwa [e,List.take_succ_cons] at z
theorem wW {l:Addr} {its:Array Value} {tgs:List (Bool × (Value→Sem Unit))} {Q:Unit→Shared→Prop} (hh:A.handled=none) (hl:s.heap.IsList l its) (hn:tgs.length=its.size) (hst:tgs.findIdx? (·.1)=none)
  (h:∀ h',Heap.ExtBut s.heap.objs.size s.heap h'→wpAny (model prog w) A (assignInOrder (tgs.map (·.2)) its.toList) Q E { s with heap:=h' }):wpAny (model prog w) A (unpack (.ref l) tgs) Q E s:=by
 have ne:l≠s.heap.objs.size:=by
  obtain ⟨o,ho,_⟩:=hl
  exact Nat.ne_of_lt (Heap.lt_size ho)
 unfold unpack
 rw [hn,hst]
 refine wpAny_bind (wpAny_holding ?_)
 unfold unpackItems notIterableAtAll
 refine wpAny_bind (wpAny_bind (wpAny_specialOf hl.typeIs slot_list_iter.lookup (wpAny_pure ?_)))
 rw [if_neg (by simp)]
 refine wpAny_bind (wpAny_holding (wpAny_pyIter_list hl ?_))
 refine wpAny_bind (wpAny_holding (wg ne its.size 0 _ _ ⟨_,Heap.get?_push_size _ rfl,rfl,rfl⟩ (hl.push _) (by omega) fun ha ga sa=>?_))
 have e:(its.toList.drop 0).take its.size=its.toList:=List.take_of_length_le (Nat.le_of_eq (by rw [List.length_drop,Nat.sub_zero,Array.length_toList]))
 rw [e,if_neg (by simp)]
 refine wpAny_bind (wpAny_holding (wpAny_pyNext_list_end hh ga ((hl.push _).extBut sa.extBut ne) (by simp) fun hb sb=>?_))
 rw [if_neg (by simp)]
 exact wpAny_pure (h hb fun b o z e=>sb b o z (sa.extBut b o z (Heap.get?_push_of_some _ e)))
end
def Qu (K:PySem.W.Frag) (n:Nat) (t:TGs):TG:=fun v σ H Q=>∃ a xs,v=.ref a∧SqL K H a xs∧xs.length=n∧t xs σ H Q
theorem MJ {X:Cx} {pos:Pos} {es:List Expr} {k:Nat} {t:TGs} {n:Nat} (hc:X.calm=true) (h:PGs X es t)
  (hn:(assignEach es X.env).length=n:=by rfl) (hst:(assignEach es X.env).findIdx? (·.1)=none:=by rfl):PG X (.Tuple es k pos) (Qu X.K n t):=by
 intro pins s σ H v u Q I r hw
 obtain ⟨a,xs,e1,hq,hl,hw⟩:=hw
 subst e1
 cases r
 obtain ⟨its,rv,ht,hz⟩:=I.list hq
 rw [assign_Tuple]
 refine wpAny_bind (wpAny_standAt (wW (I.ok.hd hc) ht.isList (by simp [hn,← hl,rv.length]) hst fun h' hx=>?_))
 exact h pins _ σ H xs _ Q (I.kept (t':=s.toks) fun b o e=>hx b o (Nat.ne_of_lt (Heap.lt_size e)) e) (by simpa using rv) hw
def Ln (n:Nat) (H:Hp):List V→List V→Prop
 | [],[]=>True
 | x :: xs,y :: ys=>((x=.non∧y=.non)∨∃ d,eO n d∧Den H x d∧Den H y d)∧Ln n H xs ys
 | _,_=>False
end L2
namespace L2
open PySem PySem.Spec PyProof.Rows
def P0 (F:List (Str × List Str)):List (Str × KTD.Dat):=F.map fun p=>(p.1,.tup (p.2.map PyData.str))
def Qk (K:PySem.W.Frag) (t:Addr) (F:List (Str × List Str)):Prop:=KTD.tabLook (KTD.datLooks fun b=>K.lookup b) (fun b=>K.lookup b) t (P0 F)=true
def RK (K:PySem.W.Frag) (d:KTD.Dat) (v:Value):Prop:=KTD.datLooks (fun b=>K.lookup b) d v=true
theorem Qk.here {K:PySem.W.Frag} {t:Addr} {F:List (Str × List Str)} {h:Heap} (k:Qk K t F) (X:K.In h):KTD.Here h h t (P0 F):=⟨PySem.W.kt_text_in X k,fun _ _ e=>e⟩
section
variable {prog:Program} {w:World} {A:Around} {E:Value→Shared→Prop} {s:Shared}
end
end L2
namespace L2
open PySem PySem.Spec PyProof.Rows
def oh (K:PySem.W.Frag) (nm:Str) (v:Value):Bool:=match PySem.W.nsIn K mainGlobals nm,v with
 | some (some (.ref a)),.ref b=>a == b
 | _,_=>false
def KFT (K:PySem.W.Frag) (t:Addr) (F:List (Str × Str)):Prop:=KTD.tabLook (oh K) (fun b=>K.lookup b) t F=true
theorem K1 {K:PySem.W.Frag} {nm:Str} {v:Value} (h:oh K nm v=true):∃ f,v=.ref f∧PySem.W.nsIn K mainGlobals nm=some (some (.ref f)):=by
 unfold oh at h
 split at h
 ·rename_i a b e
  exact ⟨b,rfl,by rw [e,eq_of_beq h]⟩
 ·cases h
theorem KFT.tab {K:PySem.W.Frag} {t:Addr} {F:List (Str × Str)} {h:Heap} (k:KFT K t F) (X:K.In h):KTD.TabOf (fun nm v=>oh K nm v=true) h t F:=KTD.tab_of_look (fun _ _ x=>x) (fun b o q=>X b o q) k
section
variable {prog:Program} {w:World} {A:Around} {E:Value→Shared→Prop} {s:Shared}
theorem Ht {δ:Type} {R:δ→Value→Prop} {a:Addr} {k:Str} {tk:Tok} {D:List (Str × δ)} {Q:Option Value→Shared→Prop} (T:KTD.TabOf R s.heap a D) {d:δ} (hd:KTD.datumAt k D=some d)
  (q:∀ v,R d v→Q (some v) { s with toks:=s.toks+1 }):wpAny (model prog w) A (dictGet a (.str k tk)) Q E s:=by
 obtain ⟨_,o,es,ep,ho,hc,he,hr⟩:=T
 unfold dictGet
 try with_reducible refine wpAny_holding ?_
 refine wpAny_bind (wpAny_pyHash_str (wpAny_bind (KTD.kt_dictFind_strs (s:={ s with toks:=s.toks+1 }) ho he (by obtain ⟨l⟩:=es; simpa using hr.exact) ?_)))
 obtain ⟨v,hv,rv⟩:=hr.find_some hd
 have z:findBy (fun k v=>v.isStr k) es k=some v:=by
  obtain ⟨l⟩:=es
  simpa [findBy] using hv
 rw [findBy_of_findIdx?] at z
 cases hi:es.findIdx? fun e=>e.key.isStr k with
 | none=>rw [hi] at z; cases z
 | some i =>
  rw [hi] at z
  refine wpAny_bind (wpAny_dictEntries (s:={ s with toks:=s.toks+1 }) ho he (wpAny_pure ?_))
  rw [show (es[i]?.map (·.val))=some v from z]
  exact q v rv
end
def N8 (K:PySem.W.Frag) (td ty:TE):TE:=fun σ H Q=>td σ H fun x H1=>ty σ H1 fun y H2=>∃ (t:Addr) (F:List (Str × Str)) (k nm:Str),x=.ref t∧y=.str k∧KFT K t F∧KTD.datumAt k F=some nm ∧
 ∀ f,PySem.W.nsIn K mainGlobals nm=some (some (.ref f))→Q (.ref f) H2
theorem Ho {X:Cx} {o i:Expr} {pos:Pos} {td ty:TE} (ho:PE X o td) (hi:PE X i ty) (hs:Oh i):PE X (.Subscript o i pos) (N8 X.K td ty):=by
 intro pins s σ H Q I h
 refine Ba PySem.F.slot_dict_getitem.lookup hs (thn (ho pins s σ H _ I h) fun u s1 ⟨x,H1,I1,rx,q1⟩=>thn (hi pins s1 σ H1 _ I1 q1) fun iv s2 ⟨y,H2,I2,ry,t,F,k,nm,ex,ey,kt,hk,q2⟩=>?_)
 subst ex ey
 cases rx
 obtain ⟨tk,rfl⟩:=ry
 have T:=kt.tab I2.kIn
 have hty:s2.TypeIs (.ref t) "dict":=by
  obtain ⟨_,o,es,ep,ho,hc,_⟩:=T
  exact ⟨o,ho,hc.1⟩
 refine ⟨hty,?_⟩
 unfold getItem
 try with_reducible refine wpAny_holding ?_
 refine wpAny_bind (wpAny_sequenceKey hty (by decide) (wpAny_bind (wpAny_callSpecial?_slot (name:=Str.ofString "__getitem__") hty slot_dict_getitem
  (wpAny_call_entry slot_dict_getitem hty entry_dict_getitem ?_ (args_dict_getitem _ _)))))
 show wpAny _ _ (dictGet t (.str k tk) >>= _) _ _ s2
 refine wpAny_bind (Ht T hk fun v rv=>wpAny_pure ⟨v,rfl,wpAny_pure ?_⟩)
 obtain ⟨f,rfl,hf⟩:=K1 rv
 exact ⟨.ref f,H2,I2.tok _,rfl,q2 f hf⟩
theorem jy {X:Cx} {w:World} (hw:X.w=w) (hc:X.calm=true):fQ X (.type "set") (M8 X.K w):=by subst hw; exact BL hc
theorem cW {X:Cx} {w:World} (hw:X.w=w) (hc:X.calm=true) (hu:X.A.units+64 < cLine):fQ X (.builtin "sorted") (zW w):=by subst hw; exact oN hc hu
theorem pQ {X:Cx} {K:PySem.W.Frag} (hK:X.K=K):fQ X (.type "list") (fun xs H Q=>∃ p ys,xs=[.ref p]∧(SqL K H p ys∨SqT K H p ys)∧∀ l,H l=none→Q (.ref l) (upd H l (.lst ys))):=by subst hK; exact cY
def MgK (K:PySem.W.Frag) (mg:Str→Option Value):Prop:=∀ (nm:Str) (v:Value),PySem.W.nsIn K mainGlobals nm=some (some v)→mg nm=some v
theorem mgk {K:PySem.W.Frag} {mg:Str→Option Value} {h:Heap} (X:K.In h) (G:h.Ns mainGlobals mg):MgK K mg:=fun _ _ e=>PySem.W.mg_of X G e
end L2
namespace SX
open PySem PySem.Spec PyProof.Rows
theorem mO {prog:Program} {w:World} {A:Around} {E:Value→Shared→Prop} {s:Shared} {l:Addr} {items:Array Value} {val:Nat→Int} {Q:Value→Shared→Prop}
  (hd:A.handled=none) (tl:s.heap.IsTuple l items) (hv:∀ (i:Nat) (v:Value),items[i]?=some v→∃ t,v=Value.int (val i) t) (room:items.size+1≤1002)
  (q:∀ (g:Heap) (tk:Nat),ST.uY w g s.heap.objs.size (rK val items.size)→(∀ b o,b < s.heap.objs.size→s.heap.get? b=some o→g.get? b=some o)→Q (.ref s.heap.objs.size) { s with heap:=g,toks:=tk }) :
  wpAny (model prog w) A (call (.type "set") [.ref l]) Q E s:=by
 obtain ⟨c,tl',hmro⟩:=PySem.F.called_set.mro
 have hmade:=PySem.F.called_set.made
 have hsub:=PySem.F.called_set.sub
 refine wpAny_call (codeAny_of_tree ?_)
 show wpAny _ _ (callAny (.type "set") _) _ _ _
 refine wpAny_pure ⟨Code.quiet_builtin _ (by decide +kernel),codeAny_builtin PySem.F.entry_type_call ?_⟩
 rw [Around.under_plain (weight_type_call_type "set" [.ref l] []) rfl]
 have h1:=PySem.F.called_set.notType
 have h2:=PySem.F.called_set.canCreate
 have hct:=PySem.F.typeCall_set_1 (.ref l)
 repeat (any_goals (first | assumption | wp_step))
 refine codeAny_mono (iK (.ref l) (E:=E) (Q₁:=fun ob s₁=>∃ led:Bool,(w.params.followText "set-order" = true∨led=true)∧ob=.ref s.heap.objs.size∧s₁={ s with heap:=s.heap.push { cls:=.type "set",dict:=none,data:=.set #[] 0 (.fresh 0 0 led) } }) ⟨_,by cases w.params.followText "set-order" <;> simp,rfl,rfl⟩) fun r s₁ hr=>?_
 cases r with
 | error e=>exact hr
 | ok fl =>
  cases fl with
  | ret ob =>
   obtain ⟨led,hled,rfl,rfl⟩:=hr
   have eS:(s.heap.push { cls:=.type "set",dict:=none,data:=.set #[] 0 (.fresh 0 0 led) }).get? s.heap.objs.size=some { cls:=.type "set",dict:=none,data:=.set #[] 0 (.fresh 0 0 led) }:=Heap.get?_push_size _ rfl
   have tS:Shared.TypeIs { s with heap:=s.heap.push { cls:=.type "set",dict:=none,data:=.set #[] 0 (.fresh 0 0 led) } } (.ref s.heap.objs.size) "set":=⟨_,eS,rfl⟩
   have hli:=PySem.F.called_set.init.lookup
   have hbi:=PySem.F.called_set.init.bind (.ref s.heap.objs.size)
   repeat (any_goals (first | assumption | wp_step))
   refine codeAny_mono (codeAny_call_builtin (R:=wants (fun r s₂=>r=.none∧∃ g tk,s₂={ s with heap:=g,toks:=tk }∧ST.uY w g s.heap.objs.size (rK val items.size) ∧
     (∀ b o,b < s.heap.objs.size→s.heap.get? b=some o→g.get? b=some o)) E) PySem.F.called_set.init.plain PySem.F.entry_set_init (check_set_init_1 tS ?_)) fun r₂ s₂ hr₂=>?_
   ·obtain ⟨⟨oc,od,odt,osl⟩,eol,ecl,nl,edl⟩:=tl
    simp only at ecl edl
    subst ecl
    subst edl
    have eol':(s.heap.push { cls:=.type "set",dict:=none,data:=.set #[] 0 (.fresh 0 0 led) }).get? l=some { cls:=.type "tuple",dict:=od,data:=.seq items nl,slots:=osl }:=Heap.get?_push_of_some _ eol
    have hsls:=PySem.F.sub_tuple_set
    have hslf:=PySem.F.sub_tuple_frozenset
    have hne:(Value.type "tuple" == Value.type "dict")=false:=by decide
    have tl1:(s.heap.push { cls:=.type "set",dict:=none,data:=.set #[] 0 (.fresh 0 0 led) }).IsTuple l items:=⟨_,eol',rfl,nl,rfl⟩
    unfold Builtin.«set.__init__» noKeywords Builtin.Frozenset.updateFrom
    generalize hPI:pyIter=PI
    wp_walk
    subst hPI
    refine wpAny_pyIter_tuple tl1 (wpAny_bind (wpAny_runValue ?_))
    have lS:l < s.heap.objs.size:=Heap.lt_size eol
    have hd3:A.in1.in1.in1.handled=none:=by simp [hd]
    have neI:l≠(s.heap.push { cls:=.type "set",dict:=none,data:=.set #[] 0 (.fresh 0 0 led) }).objs.size:=by
     rw [Heap.size_push]
     exact Nat.ne_of_lt (Nat.lt_succ_of_lt lS)
    have nf:s.heap.objs.size ∉ [(s.heap.push { cls:=.type "set",dict:=none,data:=.set #[] 0 (.fresh 0 0 led) }).objs.size,l]:=by
     rw [Heap.size_push]
     simp only [List.mem_cons,List.mem_singleton,List.not_mem_nil,or_false,not_or]
     exact ⟨Nat.ne_of_lt (Nat.lt_succ_self _),Nat.ne_of_gt lS⟩
    refine KJ ((Walks.tuple hd3 _ l neI items).toS) s.heap.objs.size nf val hv room (items.size - 0) 0 _ (by omega) (Nat.zero_le _) ⟨⟨_,Heap.get?_push_size _ rfl,rfl,rfl⟩,tl1.push _⟩ ?hS0 ?hR
    case hS0 =>
     have eg:((s.heap.push { cls:=.type "set",dict:=none,data:=.set #[] 0 (.fresh 0 0 led) }).push { cls:=.type "tuple_iterator",data:=.fields #[.ref l,.int 0 0] }).get? s.heap.objs.size=some { cls:=.type "set",dict:=none,data:=.set #[] 0 (.fresh 0 0 led) }:=Heap.get?_push_of_some _ eS
     exact ⟨_,#[],0,.fresh 0 0 led,[],eg,⟨rfl,rfl,rfl⟩,rfl,⟨⟨3,rfl⟩,rfl,rfl,by show 0≤7; decide,by show 7 % 2=1; rfl,ST.Up.nil⟩,by show 0 * 5 < 7 * 3; decide,rfl,hled,by show 7≤9000; decide,List.Perm.refl _,rfl⟩
    case hR =>
     intro s' mv hS'
     obtain ⟨g,gg,d',tk',os'⟩:=s'
     have e1:gg=s.gens:=mv.gens
     have e2:d'=s.drawn:=mv.drawn
     have e3:os'=s.os:=mv.os
     subst e1
     subst e2
     subst e3
     show wpAny _ _ _ _ _ _
     refine wpAny_pure ?_
     show wpAny _ _ (ret Value.none) _ _ _
     refine wpAny_pure ⟨rfl,g,tk',rfl,hS',fun b o hb e=>?_⟩
     have hb2:b≠(s.heap.push { cls:=.type "set",dict:=none,data:=.set #[] 0 (.fresh 0 0 led) }).objs.size:=by
      rw [Heap.size_push]
      exact Nat.ne_of_lt (Nat.lt_succ_of_lt hb)
     exact mv.heap b o (by simp only [List.mem_cons,List.mem_singleton,List.not_mem_nil,or_false,not_or]; exact ⟨Nat.ne_of_lt hb,hb2⟩) (Heap.get?_push_of_some _ (Heap.get?_push_of_some _ e))
   ·cases r₂ with
    | error e=>exact hr₂
    | ok fl₂ =>
     cases fl₂ with
     | ret r =>
      obtain ⟨rfl,g,tk,rfl,hS',hk'⟩:=hr₂
      repeat (any_goals (first | assumption | wp_step))
      exact q _ _ hS' hk'
     | _=>exact hr₂.elim
  | _=>exact hr.elim
end SX
namespace L2
open PySem PySem.Spec PyProof.Rows
theorem vJ (s sub:Str) (hi:Nat):∀ (l:List Nat) (st:Array Nat × Nat),1≤st.fst.size→(forIn l st (StrLaws.occBody s sub hi 1)).run.fst=st.fst
 | [],st,h=>rfl
 | a :: l,st,h=>by
  rw [List.forIn_cons]
  unfold StrLaws.occBody
  rw [if_neg fun c=>by have:=c.1.1.1; omega]
  exact vJ s sub hi l _ h
theorem occ_first (s sub:Str) (hi j:Nat) (h1:j+sub.length≤hi) (h2:Builtin.Str.subAt s sub j=true):∀ (n lo free:Nat),free≤lo→lo≤j→j < lo+n→(∀ k,lo≤k→k < j→¬ (k+sub.length≤hi∧Builtin.Str.subAt s sub k=true)) →
  (forIn (List.range' lo n) ((#[]:Array Nat),free) (StrLaws.occBody s sub hi 1)).run.fst = #[j]
 | 0,lo,free,_,g1,g2,_=>absurd g2 (by omega)
 | n+1,lo,free,g0,g1,g2,g3=>by
  rw [List.range'_succ,List.forIn_cons]
  unfold StrLaws.occBody
  by_cases e:lo=j
  ·subst e
   rw [if_pos ⟨⟨⟨by show 0 < 1; decide,g0⟩,h1⟩,h2⟩]
   exact vJ s sub hi _ _ (by show 1≤1; decide)
  ·rw [if_neg fun c=>g3 lo (Nat.le_refl _) (by omega) ⟨c.1.2,c.2⟩]
   exact occ_first s sub hi j h1 h2 n (lo+1) free (by omega) (by omega) (by omega) fun k a b=>g3 k (by omega) b
theorem Kp {y z:Str} {i j:Nat} (h0:i≤j) (hj:j≤y.length) (h1:z.cps.toList.isPrefixOf (y.cps.toList.drop j)=true) (h2:∀ k,i≤k→k < j→z.cps.toList.isPrefixOf (y.cps.toList.drop k)=false):Builtin.Str.occurrences y z i y.length 1=[j]:=by
 rw [StrLaws.occ_eq]
 rw [← BW y z j hj,Bool.and_eq_true,decide_eq_true_eq] at h1
 rw [occ_first y z y.length j h1.1 h1.2 (y.length+1 - i) i i (Nat.le_refl _) h0 (by omega) fun k a b c=>?_]
 have:=h2 k a b
 rw [← BW y z k (by omega)] at this
 rw [decide_eq_true c.1,c.2] at this
 cases this
theorem Fo {X:Cx}:MtR X "str.find" (fun x xs H Q=>∃ (y z:Str) (i j:Nat),x=.str y∧xs=[.str z,.int (i:Nat)]∧i≤j∧j≤y.length∧z.cps.toList.isPrefixOf (y.cps.toList.drop j)=true∧(∀ k,i≤k→k < j→z.cps.toList.isPrefixOf (y.cps.toList.drop k)=false)∧Q (.int (j:Nat)) H):=by
 intro pins s σ H x xs v us Q I rx r h
 obtain ⟨y,z,i,j,rfl,rfl,h0,hj,h1,h2,q⟩:=h
 obtain ⟨t,rfl⟩:=rx
 obtain ⟨u,u',rfl,⟨t1,rfl⟩,⟨t2,rfl⟩⟩:=vals2 r
 have ef:fromIndex y.length (i:Int)=i:=by
  unfold fromIndex
  rw [if_neg (by omega)]
  omega
 refine call_gives F.slot_str_find (typeIs_str _ _ _) F.entry_str_find (F.args_str_find_3 _ _ _) (gives_str_find_from y z (i:Int) t t1 t2) ?_
 rw [ef,Kp h0 hj h1 h2]
 exact ⟨.int _,H,I.tok _,⟨_,rfl⟩,q⟩
end L2
namespace L2
open PySem PySem.W PyProof.Rows
def Lb (K:PySem.W.Frag) (w:World):List V→Hp→VK→Prop:=fun xs H Q=>∃ (p:Addr) (ns:List Int),xs=[.ref p]∧SqT K H p (ns.map V.int)∧ns.length≤1001∧∀ (a:Addr) (ms:List Int),H a=none→ms.Nodup→(∀ k,k∈ms↔k∈ns)→ms.length≤ns.length→Q (.ref a) (upd H a (.ext (intΦ w a ms)))
theorem wL {X:Cx} {w:World} (hw:X.w=w) (hc:X.calm=true):fQ X (.type "set") (Lb X.K w):=by
 subst hw
 intro pins s σ H xs us Q I r h
 obtain ⟨p,ns,rfl,hp,hz,q⟩:=h
 obtain ⟨u,rfl,rx⟩:=vals1 r
 cases rx
 obtain ⟨its,rv,pl,hzz⟩:=I.tuple hp
 have hil:=rv.length
 rw [List.length_map] at hil
 have hsz:its.toArray.size=ns.length:=by simp; omega
 refine SX.mO (val:=fun i=>ns.getD i 0) (I.ok.hd hc) (show s.heap.IsTuple _ its.toArray from pl) (fun i v hv=>Cu rv (by simpa using hv)) (by rw [hsz]; omega) fun g tk hS kp=>?_
 rw [hsz] at hS
 obtain ⟨h1,h2⟩:=pK (ns:=ns) ns.length (Nat.le_refl _)
 have h3:=SX.jW (val:=fun i=>ns.getD i 0) (i:=ns.length)
 generalize SX.rK (fun i=>ns.getD i 0) ns.length=ms at hS h1 h2 h3
 rw [List.take_length] at h2
 refine ⟨.ref s.heap.objs.size,_,I.laid (t':=tk) (o:=.ext (intΦ X.w s.heap.objs.size ms)) (fun b o e=>kp b o (Heap.lt_size e) e) (Nat.le_refl _) ?_,rfl,q _ ms I.fresh h1 h2 (by omega)⟩
 refine ⟨hS,?_,fun h1 h2 hh k=>SX.pF hh k⟩
 obtain ⟨o,_,_,_,_,eo,_⟩:=hS.ex
 exact ⟨o,eo⟩
end L2
namespace M22
open PySem M01
def wAt (cs:List Nat) (p:Nat):Bool:=match cs[p]? with | some c=>isW c | none=>false
theorem iw {cs:List Nat} {p c:Nat} (h:cs[p]?=some c):wAt cs p=isW c:=by unfold wAt; rw [h]
theorem J0 {cs:List Nat} {p:Nat} (h:wAt cs p=true):p < cs.length:=by
 refine Classical.byContradiction fun z=>?_
 unfold wAt at h
 rw [List.getElem?_eq_none (by omega)] at h
 cases h
def j9 (cs:List Nat) (b:Nat):Nat:=b+((cs.drop b).takeWhile isW).length
theorem Gy:∀ (l:List Nat) (p:Nat),p < (l.takeWhile isW).length→wAt l p=true
 | [],p,h=>absurd h (by simp)
 | c :: l,0,h=>by
  unfold wAt
  show isW c=true
  rw [List.takeWhile_cons] at h
  split at h
  ·assumption
  ·exact absurd h (by simp)
 | c :: l,p+1,h=>by
  rw [List.takeWhile_cons] at h
  split at h
  ·rw [List.length_cons] at h
   have:=Gy l p (by omega)
   unfold wAt at this ⊢
   rw [List.getElem?_cons_succ]
   exact this
  ·exact absurd h (by simp)
theorem BZ:∀ (l:List Nat),wAt l (l.takeWhile isW).length=false
 | []=>rfl
 | c :: l=>by
  rw [List.takeWhile_cons]
  split
  ·have:=BZ l
   unfold wAt at this ⊢
   rw [List.length_cons,List.getElem?_cons_succ]
   exact this
  ·rename_i h
   show isW c=false
   simpa using h
theorem vm {cs:List Nat} {b p:Nat}:wAt (cs.drop b) p=wAt cs (b+p):=by
 unfold wAt
 rw [List.getElem?_drop]
theorem GX {cs:List Nat} {b p:Nat} (h1:b≤p) (h2:p < j9 cs b):wAt cs p=true:=by
 unfold j9 at h2
 have:=Gy (cs.drop b) (p - b) (by omega)
 rw [vm,show b+(p - b)=p by omega] at this
 exact this
theorem pN (cs:List Nat) (b:Nat):wAt cs (j9 cs b)=false:=by
 have:=BZ (cs.drop b)
 rw [vm] at this
 exact this
theorem Kl {cs:List Nat} {b e:Nat} (h1:b≤e) (h2:∀ p,b≤p→p < e→wAt cs p=true) (h3:wAt cs e=false):j9 cs b=e:=by
 have a:=pN cs b
 have hb:b≤j9 cs b:=Nat.le_add_right _ _
 rcases Nat.lt_trichotomy (j9 cs b) e with h | h | h
 ·rw [h2 _ hb h] at a; cases a
 ·exact h
 ·rw [GX h1 h] at h3; cases h3
theorem rH {cs:List Nat} {b:Nat} (h:b≤cs.length):j9 cs b≤cs.length:=by
 unfold j9
 have:=(List.takeWhile_prefix isW (l:=cs.drop b)).length_le
 rw [List.length_drop] at this
 omega
def beg (cs:List Nat) (i:Nat):Bool:=wAt cs i && (i == 0 || !wAt cs (i - 1))
def spn (cs:List Nat):Nat→List (Nat × Nat)
 | 0=>[]
 | i+1=>if beg cs i=true then spn cs i++[(i,j9 cs i)] else spn cs i
def wordAt (cs:List Nat) (p:Nat × Nat):List Nat:=(cs.drop p.1).take (p.2 - p.1)
theorem CQ (cs:List Nat) (i:Nat):wordAt cs (i,j9 cs i)=(cs.drop i).takeWhile isW:=by
 unfold wordAt j9
 show (cs.drop i).take (i+_ - i)=_
 rw [show i+((cs.drop i).takeWhile isW).length - i=((cs.drop i).takeWhile isW).length by omega]
 exact (List.prefix_iff_eq_take.mp (List.takeWhile_prefix isW)).symm
theorem zK {cs:List Nat} {i:Nat} (h:i≤cs.length):(scn (cs.take i)).2=[]↔(i=0∨wAt cs (i - 1)=false):=by
 cases i with
 | zero=>simp [scn]
 | succ j =>
  have hj:j < cs.length:=by omega
  have ht:cs.take (j+1)=cs.take j++[cs[j]]:=by rw [List.take_add_one,List.getElem?_eq_getElem hj]; rfl
  rw [ht,El]
  have:wAt cs (j+1 - 1)=isW cs[j]:=iw (List.getElem?_eq_getElem hj)
  rw [this]
  constructor
  ·exact fun z=>Or.inr z
  ·exact fun z=>z.resolve_left (by omega)
theorem rC (cs:List Nat):∀ i,i≤cs.length→(spn cs i).map (wordAt cs)=cmp (scn (cs.take i)) (cs.drop i)
 | 0,_=>rfl
 | i+1,h=>by
  have hi:i < cs.length:=by omega
  have ht:cs.take (i+1)=cs.take i++[cs[i]]:=by rw [List.take_add_one,List.getElem?_eq_getElem hi]; rfl
  have hd:cs.drop i=cs[i] :: cs.drop (i+1):=List.drop_eq_getElem_cons hi
  have ih:=rC cs i (by omega)
  have ew:wAt cs i=isW cs[i]:=iw (List.getElem?_eq_getElem hi)
  have hs:=zK (cs:=cs) (i:=i) (by omega)
  rw [ht,vR]
  show (if beg cs i=true then spn cs i++[(i,j9 cs i)] else spn cs i).map (wordAt cs)=_
  by_cases hb:beg cs i=true
  ·rw [if_pos hb,List.map_append,ih]
   have hb':=hb
   unfold beg at hb'
   rw [Bool.and_eq_true,Bool.or_eq_true,beq_iff_eq,Bool.not_eq_true'] at hb'
   rw [Jm (ew ▸ hb'.1) (hs.mpr hb'.2),← hd]
   congr 1
   show [wordAt cs (i,j9 cs i)]=_
   rw [CQ]
  ·rw [if_neg hb,ih,hd,Im]
   rintro ⟨z1,z2⟩
   refine hb ?_
   unfold beg
   rw [Bool.and_eq_true,Bool.or_eq_true,beq_iff_eq,Bool.not_eq_true']
   exact ⟨ew ▸ z1,hs.mp z2⟩
def spans (cs:List Nat):List (Nat × Nat):=spn cs cs.length
theorem kZ (cs:List Nat):(spans cs).map (wordAt cs)=wds cs:=by
 unfold spans
 rw [rC cs _ (Nat.le_refl _),List.take_length,List.drop_length,HS]
 rfl
theorem Bj (cs:List Nat):(spans cs).length=(wds cs).length:=by rw [← kZ,List.length_map]
theorem xZ (cs:List Nat):∀ i,(spn cs i).length≤i
 | 0=>Nat.le_refl _
 | i+1=>by
  have:=xZ cs i
  show (if beg cs i=true then spn cs i++[(i,j9 cs i)] else spn cs i).length≤i+1
  split
  ·rw [List.length_append]; simp; omega
  ·omega
def jN (l:List (Nat × Nat)):Nat:=match l.getLast? with | some p=>p.2 | none=>0
theorem jt (l:List (Nat × Nat)) (p:Nat × Nat):jN (l++[p])=p.2:=by unfold jN; rw [List.getLast?_concat]
def Good (cs:List Nat) (e0:Nat) (p:Nat × Nat):Prop:=e0≤p.1∧p.2=j9 cs p.1∧wAt cs p.1=true∧p.2≤cs.length∧∀ k,e0≤k→k < p.1→wAt cs k=false
def Chn (cs:List Nat) (l:List (Nat × Nat)):Prop:=∀ (m:Nat) (p:Nat × Nat),l[m]?=some p→Good cs (jN (l.take m)) p
theorem Ed {cs:List Nat} {l:List (Nat × Nat)} {p:Nat × Nat} (h:Chn cs l) (g:Good cs (jN l) p):Chn cs (l++[p]):=by
 intro m q hq
 rcases Nat.lt_trichotomy m l.length with z | z | z
 ·rw [List.getElem?_append_left z] at hq
  rw [List.take_append_of_le_length (by omega)]
  exact h m q hq
 ·subst z
  rw [List.getElem?_concat_length] at hq
  cases hq
  rw [List.take_append_of_le_length (Nat.le_refl _),List.take_length]
  exact g
 ·rw [List.getElem?_eq_none (by rw [List.length_append]; simp; omega)] at hq
  cases hq
theorem yj (cs:List Nat):∀ i,i≤cs.length→Chn cs (spn cs i)∧(∀ p,jN (spn cs i)≤p→p < i→wAt cs p=false)∧(∀ p,i≤p→p < jN (spn cs i)→wAt cs p=true)∧(i < jN (spn cs i)→0 < i∧wAt cs (i - 1)=true)∧(spn cs i≠[]→wAt cs (jN (spn cs i))=false)
 | 0,_=>⟨fun m p h=>(by cases h),fun p _ h=>absurd h (by omega),fun p _ h=>absurd h (by show ¬ p < 0; omega),fun h=>absurd h (by show ¬ 0 < 0; omega),fun h=>absurd rfl h⟩
 | i+1,hi=>by
  obtain ⟨h1,h2,h3,h4,h5⟩:=yj cs i (by omega)
  by_cases hb:beg cs i=true
  ·have e:spn cs (i+1)=spn cs i++[(i,j9 cs i)]:=if_pos hb
   have hb':=hb
   unfold beg at hb'
   rw [Bool.and_eq_true,Bool.or_eq_true,beq_iff_eq,Bool.not_eq_true'] at hb'
   obtain ⟨b1,b2⟩:=hb'
   have hle:jN (spn cs i)≤i:=by
    refine Classical.byContradiction fun z=>?_
    obtain ⟨z1,z2⟩:=h4 (by omega)
    rcases b2 with b2 | b2
    ·omega
    ·rw [z2] at b2; cases b2
   have hs:i < j9 cs i:=by
    refine Classical.byContradiction fun z=>?_
    have a:=pN cs i
    have:i≤j9 cs i:=Nat.le_add_right _ _
    rw [show j9 cs i=i by omega,b1] at a
    cases a
   rw [e,jt]
   refine ⟨Ed h1 ⟨hle,rfl,b1,rH (by omega),fun k a b=>h2 k a b⟩,fun p a b=>?_,fun p a b=>GX (by omega) b,fun a=>⟨by omega,b1⟩,fun _=>pN cs i⟩
   exact absurd (show j9 cs i≤p from a) (by omega)
  ·have e:spn cs (i+1)=spn cs i:=if_neg hb
   rw [e]
   have hn:wAt cs i=true→0 < i∧wAt cs (i - 1)=true:=fun a=>by
    unfold beg at hb
    rw [a,Bool.true_and,Bool.or_eq_true,beq_iff_eq,Bool.not_eq_true'] at hb
    refine ⟨by omega,?_⟩
    cases q:wAt cs (i - 1)
    ·exact absurd (Or.inr q) hb
    ·rfl
   refine ⟨h1,fun p a b=>?_,fun p a b=>h3 p (by omega) b,fun a=>⟨by omega,?_⟩,h5⟩
   ·by_cases hp:p < i
    ·exact h2 p a hp
    ·have ep:p=i:=by omega
     subst ep
     cases q:wAt cs p
     ·rfl
     ·obtain ⟨n1,n2⟩:=hn q
      by_cases hE:spn cs p=[]
      ·have:=h2 (p - 1) (by rw [hE]; exact Nat.zero_le _) (by omega)
       rw [n2] at this; cases this
      ·have hl:jN (spn cs p)=p:=by
        refine Nat.le_antisymm a ?_
        refine Classical.byContradiction fun z=>?_
        have:=h2 (p - 1) (by omega) (by omega)
        rw [n2] at this; cases this
       have:=h5 hE
       rw [hl,q] at this
       cases this
   ·exact h3 i (Nat.le_refl _) (by omega)
theorem rE (cs:List Nat):Chn cs (spans cs):=(yj cs _ (Nat.le_refl _)).1
theorem sS {cs:List Nat} {e0:Nat} {p:Nat × Nat} (g:Good cs e0 p):(wordAt cs p).isPrefixOf (cs.drop p.1)=true∧∀ k,e0≤k→k < p.1→(wordAt cs p).isPrefixOf (cs.drop k)=false:=by
 obtain ⟨g1,g2,g3,g4,g5⟩:=g
 refine ⟨?_,fun k a b=>?_⟩
 ·rw [List.isPrefixOf_iff_prefix]
  exact List.take_prefix _ _
 ·have hlt:p.1 < p.2:=by
   refine Classical.byContradiction fun z=>?_
   have a:=pN cs p.1
   have:p.1≤j9 cs p.1:=Nat.le_add_right _ _
   rw [show j9 cs p.1=p.1 by omega,g3] at a
   cases a
  have hk:=g5 k a b
  have hkl:k < cs.length:=by omega
  have hbl:p.1 < cs.length:=by omega
  have e1:wordAt cs p=cs[p.1] :: (cs.drop (p.1+1)).take (p.2 - p.1 - 1):=by
   unfold wordAt
   rw [List.drop_eq_getElem_cons hbl,show p.2 - p.1=(p.2 - p.1 - 1)+1 by omega,List.take_succ_cons]
   rfl
  rw [e1,List.drop_eq_getElem_cons hkl,List.isPrefixOf_cons₂]
  have e2:wAt cs p.1=isW cs[p.1]:=iw (List.getElem?_eq_getElem hbl)
  have e3:wAt cs k=isW cs[k]:=iw (List.getElem?_eq_getElem hkl)
  have:¬ (cs[p.1]=cs[k]):=fun z=>by
   rw [z] at e2
   rw [e2,← e3,hk] at g3
   cases g3
  rw [beq_eq_false_iff_ne.mpr this,Bool.false_and]
end M22
namespace L2
open PySem PySem.Spec PyProof.Rows
inductive Th where
 | non | bl (b:Bool) | int (i:Int) | str (x:Str) | tup (ts:List Th) | lst | dct
mutual
def ThV (K:PySem.W.Frag) (B:List Addr) (H:Hp):V→Th→Prop
 | v,.non=>v=.non
 | v,.bl b=>v=.bl b
 | v,.int i=>v=.int i
 | v,.str x=>v=.str x∧x.length≤1000
 | v,.tup ts=>∃ (p:Addr) (vs:List V),v=.ref p∧SqT K H p vs∧ThL K B H vs ts
 | v,.lst=>∃ (p:Addr) (vs:List V),v=.ref p∧p ∉ B∧H p=some (.lst vs)
 | v,.dct=>∃ (p:Addr) (kvs:List (Key × V)),v=.ref p∧p ∉ B∧H p=some (.dK kvs)
def ThL (K:PySem.W.Frag) (B:List Addr) (H:Hp):List V→List Th→Prop
 | [],[]=>True
 | v :: vs,t :: ts=>ThV K B H v t∧ThL K B H vs ts
 | _,_=>False
end
section
variable {K:PySem.W.Frag} {B:List Addr} {H H':Hp}
theorem Ga {a:Addr} {xs:List V} (e:∀ (b:Addr) (o:HO),H b=some o→(∀ ys,o≠.lst ys)→(∀ ys,o≠.dK ys)→H' b=some o) (h:SqT K H a xs):SqT K H' a xs:=by
 rcases h with (h | ⟨o,h⟩) | h
 ·exact .inl (.inl (e _ _ h (fun _ z=>nomatch z) (fun _ z=>nomatch z)))
 ·exact .inl (.inr ⟨o,e _ _ h (fun _ z=>nomatch z) (fun _ z=>nomatch z)⟩)
 ·exact .inr h
mutual
theorem ThV.keep (e:∀ (b:Addr) (o:HO),H b=some o→(∀ ys,o≠.lst ys)→(∀ ys,o≠.dK ys)→H' b=some o) (f:∀ (b:Addr) (o:HO),b ∉ B→H b=some o→H' b=some o):∀ {t:Th} {v:V},ThV K B H v t→ThV K B H' v t
 | .non,_,h=>h
 | .bl _,_,h=>h
 | .int _,_,h=>h
 | .str _,_,h=>h
 | .tup ts,_,h=>by
  obtain ⟨p,vs,rfl,hp,hd⟩:=h
  exact ⟨p,vs,rfl,Ga e hp,ThL.keep e f hd⟩
 | .lst,_,h=>by
  obtain ⟨p,vs,rfl,hb,hp⟩:=h
  exact ⟨p,vs,rfl,hb,f _ _ hb hp⟩
 | .dct,_,h=>by
  obtain ⟨p,vs,rfl,hb,hp⟩:=h
  exact ⟨p,vs,rfl,hb,f _ _ hb hp⟩
theorem ThL.keep (e:∀ (b:Addr) (o:HO),H b=some o→(∀ ys,o≠.lst ys)→(∀ ys,o≠.dK ys)→H' b=some o) (f:∀ (b:Addr) (o:HO),b ∉ B→H b=some o→H' b=some o):∀ {ts:List Th} {vs:List V},ThL K B H vs ts→ThL K B H' vs ts
 | [],[],_=>trivial
 | _ :: _,_ :: _,h=>⟨ThV.keep e f h.1,ThL.keep e f h.2⟩
 | [],_ :: _,h=>h.elim
 | _ :: _,[],h=>h.elim
end
end
end L2
namespace L2
open PySem PySem.Spec PyProof.Rows
def Qp:R2:=fun x y H Q=>∃ (l b:Addr) (xs:List V),x=.ref l∧y=.ref b∧H l=some (.lst xs)∧H b=some (.lst [])∧Q (.bl xs.isEmpty) H
theorem Mp {X:Cx} (hu:X.A.units < cLine):OpR X (compareOp .Eq) Qp:=by
 intro pins s σ H x y v u Q I rx ry h
 obtain ⟨l,b,xs,rfl,rfl,hl,hb,q⟩:=h
 cases rx
 cases ry
 obtain ⟨its,r1,p1,_⟩:=I.list (SqL.of (K:=X.K) hl)
 obtain ⟨its2,r2,p2,_⟩:=I.list (SqL.of (K:=X.K) hb)
 cases r2
 cases r1 with
 | nil=>exact SeqAt.eq_listAt (e:=fun _=>true) p1.isList p2.isList rfl hu (fun j h1 _=>absurd h1 (Nat.not_lt_zero j)) ⟨.bl true,H,I,rfl,q⟩
 | cons _ _=>exact SeqAt.eq_list_lengthsAt p1.isList p2.isList (by simp) hu ⟨.bl false,H,I,rfl,q⟩
def Qq (H:Hp):V→Prop
 | .str x=>x.length≤1000
 | .non=>True
 | .bl _=>True
 | .int _=>True
 | .ref p=>(∃ xs,H p=some (.lst xs))∨(∃ xs,H p=some (.tup xs))∨∃ kvs,H p=some (.dK kvs)
 | _=>False
end L2
namespace L2
open PySem PySem.Spec PyProof.Rows
def notStar:Expr→Bool
 | .Starred ..=>false
 | _=>true
theorem zO {e:Expr} {es:List Expr} {env:Env} (h:notStar e=true):starEach (e :: es) env=(false,eval e env) :: starEach es env:=by
 cases e <;> first | rfl | cases h
theorem QT {X:Cx} {e:Expr} {es:List Expr} {te:TE} {t:TA} (ha:PE X e te) (hr:PA X es t) (h:notStar e=true:=by rfl):PA X (e :: es) (xG te t):=aj ha hr (zO h)
structure QSs (X:Cx) (st:List Stmt) (t:TS):Prop where
 h:PSs X st t
structure QS (X:Cx) (st:Stmt) (t:TS):Prop where
 h:PS X st t
structure QE (X:Cx) (e:Expr) (t:TE):Prop where
 h:PE X e t
structure QA (X:Cx) (es:List Expr) (t:TA):Prop where
 h:PA X es t
theorem fB {X:Cx} {st:Stmt} {rest:List Stmt} {t u:TS} (h1:QS X st t) (h2:QSs X rest u):QSs X (st :: rest) (Nr t u):=⟨au h1.h h2.h⟩
theorem Gk {X:Cx} {i:Nat} {x:Str} {e:Expr} {te:TE} {pos pos':Pos} (hN:X.N.Nodup) (hi:X.N[i]?=some x) (hx:Loc X.env.scope x) (he:QE X e te) (hs:swapsWith e (some (.Name x pos')) pos.line X.env=pure false:=by rfl)
  (hf:X.fn x=true∨X.env.scope.names.lookup x=some .local:=by first | exact .inl rfl | exact .inr rfl):QS X (.Assign [.Name x pos'] e pos) (Ng te (xr i)):=⟨aH hN hi hx he.h hs hf⟩
theorem Ml {X:Cx} {es:List Expr} {t:TA} {pos:Pos} (h:QA X es t):QE X (.List es pos) (Qi t):=⟨bV h.h⟩
theorem K3 {X:Cx}:QA X [] Nt:=⟨ao⟩
theorem Cq {X:Cx} {e:Expr} {es:List Expr} {te:TE} {t:TA} (ha:QE X e te) (hr:QA X es t) (h:notStar e=true:=by rfl):QA X (e :: es) (xG te t):=⟨QT ha.h hr.h h⟩
end L2
namespace L2
open PySem PySem.Spec PyProof.Rows
end L2
namespace L2
open PySem PySem.Spec PyProof.Rows
structure QPs (X:Cx) (pos:Pos) (keys:List (Option Expr)) (values:List Expr) (trs:List (TE × TE)):Prop where
 h:PPs X pos keys values trs
theorem Ii {X:Cx} {pos:Pos}:QPs X pos [] [] []:=⟨tZ⟩
theorem uK {X:Cx} {pos:Pos} {k v:Expr} {ks:List (Option Expr)} {vs:List Expr} {tk tv:TE} {trs:List (TE × TE)} (hk:QE X k tk) (hv:QE X v tv) (hr:QPs X pos ks vs trs):QPs X pos (some k :: ks) (v :: vs) ((tk,tv) :: trs):=⟨eY hk.h hv.h hr.h⟩
theorem Jd {X:Cx} {pos:Pos} {keys:List (Option Expr)} {values:List Expr} {trs:List (TE × TE)} (h:QPs X pos keys values trs) (hall:keys.all (·.isSome)=true) (hl:keys.length=values.length) (h0:keys≠[]) (h15:keys.length≤15):QE X (.Dict keys values pos) (Lx trs):=⟨tM h.h hall hl h0 h15⟩
theorem Gw {X:Cx} {x:Str} {k:Nat} {pos:Pos}:QE X (.Constant (.str x) k pos) (tC (.str x)):=⟨aG⟩
end L2
namespace L2
open PySem PySem.Spec PyProof.Rows
end L2
namespace L2
open PySem PySem.Spec PyProof.Rows
section
variable {X:Cx}
end
end L2
namespace L2
open PySem PySem.Spec PyProof.Rows
structure QI (X:Cx) (tg e:Expr) (t:TI):Prop where
 h:PI X tg e t
theorem Ig {X:Cx} {st:Stmt} {t:TS} (h1:QS X st t):QSs X [st] t:=⟨aD h1.h⟩
end L2
namespace M08
end M08
namespace L2
open M08
end L2
namespace Mine
open PySem L2 PyProof.Rows
def top (i:Nat):Stmt:=PySem.Challenge.pw_twainkeep_k22_texts_changed.main.body.getD i (.Pass ⟨0,0,0,0⟩)
abbrev qb:Stmt:=top 11
abbrev oJ:Stmt:=top 13
abbrev nZ:Stmt:=top 14
abbrev gH:Stmt:=top 15
abbrev Mu:Stmt:=top 19
abbrev nG:Stmt:=top 20
abbrev iM:Stmt:=top 22
abbrev jU:Stmt:=top 24
abbrev cQ:Stmt:=top 27
abbrev j4:Stmt:=top 40
abbrev eX:Stmt:=top 41
abbrev iU:Stmt:=top 42
abbrev iQ:Stmt:=top 43
abbrev Fl:Stmt:=top 51
abbrev Np:Stmt:=top 53
abbrev Fw:Stmt:=top 54
abbrev uZ:Stmt:=top 55
abbrev lG:Stmt:=top 56
abbrev vZ:Stmt:=top 57
abbrev Dr:Stmt:=top 58
abbrev j5:Stmt:=top 59
abbrev uR:Stmt:=top 60
abbrev zU:Stmt:=top 61
abbrev mU:Stmt:=top 62
abbrev DW:Stmt:=top 63
abbrev nO:Stmt:=top 64
abbrev pA:Stmt:=top 65
abbrev Df:Stmt:=top 66
abbrev uw:Stmt:=top 67
abbrev oW:Stmt:=top 68
abbrev sDo:Stmt:=top 69
abbrev DX:Stmt:=top 70
abbrev Ez:Stmt:=top 71
abbrev vI:Stmt:=top 72
abbrev qm:Stmt:=top 73
abbrev lK:Stmt:=top 74
abbrev CK:Stmt:=top 75
theorem cX {H H':Hp} {l:Addr} {o:HO} (s:Same H H') (h:H l=none):Same H (upd H' l o):=fun c u z=>by
 rw [aF (aB z h)]
 exact s c u z
theorem cG {α:Type} {xs:List α} {i:Nat} (h:i < xs.length):xs[i]?=some xs[i]:=List.getElem?_eq_getElem h
theorem take_one {α:Type} {xs:List α} {i:Nat} {x:α} (h:xs[i]?=some x):xs.take (i+1)=xs.take i++[x]:=by rw [List.take_add_one,h]; rfl
theorem at_of {H:Hp} {vs:List V} {ds:List D} (d:bI H vs ds) {i:Nat} {v:V} (h:vs[i]?=some v) {e:D} (he:ds[i]?=some e):Den H v e:=by
 obtain ⟨f,hf,k⟩:=d.at_ h
 rw [hf] at he
 cases he
 exact k
theorem iW {H:Hp} {l:Addr} {us ws:List V} (e:H l=some (.lst us)):∀ (b:Addr) (vs:List V),H b=some (.tup vs)→(upd H l (.lst ws)) b=some (.tup vs):=fun b vs z=>by
 rw [aF]
 ·exact z
 ·intro q
  rw [q,e] at z
  cases z
theorem CG {t u:TS} {D:Ends} {σ:L2.St} {H:Hp} (P:L2.St→Hp→Prop) (h1:∀ N:L2.St→Hp→Prop,(∀ σ' H',P σ' H'→N σ' H')→t { D with nx:=N } σ H) (h2:∀ σ' H',P σ' H'→u D σ' H'):Nr t u D σ H:=h1 (u D) h2
theorem nxP {t u:TS} {D:Ends} {r:VK} {b c:L2.St→Hp→Prop} {σ:L2.St} {H:Hp} (P:L2.St→Hp→Prop) (h1:∀ N:L2.St→Hp→Prop,(∀ σ' H',P σ' H'→N σ' H')→t { D with nx:=N } σ H) (h2:∀ σ' H',P σ' H'→u D σ' H'):Ends.nx ⟨Nr t u D,r,b,c⟩ σ H:=h1 (u D) h2
def mq (c:Nat):Prop:=(32≤c∧c≤126)∨c=10
def Rr (K:PySem.W.Frag) (H:Hp) (v:V) (ds:List D):Prop:=∃ (p:Addr) (us:List V),v=.ref p∧SqT K H p us∧bI H us ds
abbrev Nms:=List (List Nat)
abbrev Prt:=List Nat × List Nat × List Int
abbrev Lnk:=Nms × Nms × Int × List Int × List Int
def CJ (ms:List Int):D:=.tup (ms.map D.int)
def gq (ns:Nms):D:=.tup (ns.map sD)
def bw (q:Prt):D:=.tup [sD q.1,sD q.2.1,CJ q.2.2]
def bY (k:Lnk):D:=.tup [gq k.1,gq k.2.1,.int k.2.2.1,.tup [CJ k.2.2.2.1,CJ k.2.2.2.2]]
def Ek (ms:List Int):Prop:=(∀ n∈ms,0≤n∧n≤1000000000000)∧ms.Pairwise (· < ·)∧ms.length≤20
def wK (ns:Nms):Prop:=(∀ x∈ns,isNm ⟨x.toArray⟩=true)∧ns.Pairwise (fun a b=>dlt (sD a) (sD b)=true)∧ns.length≤1000
def tV (q:Prt):Prop:=isNm ⟨q.1.toArray⟩=true∧q.2.1.length≤1000∧(∀ c∈q.2.1,mq c)∧Ek q.2.2∧q.2.2≠[]
def n8 (k:Lnk):Prop:=wK k.1∧wK k.2.1∧k.1≠[]∧k.2.1≠[]∧0≤k.2.2.1∧k.2.2.1≤1000000000000∧Ek k.2.2.2.1∧Ek k.2.2.2.2
theorem KD {H:Hp}:∀ {cs:List Int} {vs:List V},bI H vs (cs.map D.int)→vs=cs.map V.int
 | [],[],_=>rfl
 | _ :: cs,v :: vs,h=>by
  have e:v=.int _:=h.1
  rw [e,KD h.2]
  rfl
 | [],_ :: _,h=>h.elim
 | _ :: _,[],h=>h.elim
theorem fG (H:Hp):∀ cs:List Int,bI H (cs.map V.int) (cs.map D.int)
 | []=>trivial
 | _ :: cs=>⟨rfl,fG H cs⟩
theorem dG {H:Hp}:∀ {ds es:List D} {vs us:List V},bI H vs ds→bI H us es→bI H (vs++us) (ds++es)
 | [],_,[],_,_,h=>h
 | _ :: _,_,_ :: _,_,h,g=>⟨h.1,dG h.2 g⟩
 | [],_,_ :: _,_,h,_=>h.elim
 | _ :: _,_,[],_,h,_=>h.elim
theorem dF {n:Nat} {d:D} (h:eO n d):∀ k,eO (n+k) d
 | 0=>h
 | k+1=>(dF h k).up
theorem cV {n:Nat} {ds:List D} (hl:ds.length≤100000) (h:∀ d∈ds,eO n d):eO (n+1) (.tup ds) :=
 ⟨(fun z=>nomatch z),fun es e=>by injection e with e; subst e; exact ⟨hl,h⟩⟩
theorem pG {ms:List Int} (h:ms.length≤1000):eO 1 (CJ ms):=cV (by rw [List.length_map]; omega) fun d hd=>by
 obtain ⟨i,_,rfl⟩:=List.mem_map.mp hd
 exact uE i
theorem jC {ns:Nms} (h:ns.length≤1000):eO 1 (gq ns):=cV (by rw [List.length_map]; omega) fun d hd=>by
 obtain ⟨i,_,rfl⟩:=List.mem_map.mp hd
 exact dD _
theorem oU {α β:Type} {f:α→D} {g:β→D} (h:∀ a b,Sim (f a) (g b)):∀ (xs:List α) (ys:List β),ud (xs.map f) (ys.map g)
 | [],_=>uG _
 | _ :: _,[]=>Lg _
 | x :: xs,y :: ys=>gW (h x y) (oU h xs ys)
theorem xY (a b:Int):Sim (.int a) (.int b):=trivial
theorem pP (a b:Str):Sim (.str a) (.str b):=trivial
theorem rZ (a b:List Int):Sim (CJ a) (CJ b):=wR (oU (fun a b=>xY a b) a b)
theorem qp (a b:Nms):Sim (gq a) (gq b):=wR (oU (fun a b=>pP _ _) a b)
theorem Ea (a b:Lnk):Sim (bY a) (bY b):=by
 unfold bY
 exact wR (gW (qp _ _) (gW (qp _ _) (gW (xY _ _) (gW (wR (gW (rZ _ _) (gW (rZ _ _) (uG _)))) (uG _)))))
theorem mC {q:Lnk} (g:n8 q):eO 3 (bY q):=by
 obtain ⟨g1,g2,g3,g4,g5,g6,g7,g8⟩:=g
 refine cV (by simp) fun d hd=>?_
 simp only [List.mem_cons,List.not_mem_nil,or_false] at hd
 rcases hd with rfl | rfl | rfl | rfl
 ·exact (jC g1.2.2).up
 ·exact (jC g2.2.2).up
 ·exact (uE _).up.up
 ·refine cV (by simp) fun d hd=>?_
  simp only [List.mem_cons,List.not_mem_nil,or_false] at hd
  rcases hd with rfl | rfl
  ·exact pG (Nat.le_trans g7.2.2 (by decide))
  ·exact pG (Nat.le_trans g8.2.2 (by decide))
theorem Fy {H:Hp} {v:V} {q:Lnk} (h:Den H v (bY q)):∃ (p p0 p1 p3 p4 p5:Addr) (us0 us1:List V),v=.ref p∧H p=some (.tup [.ref p0,.ref p1,.int q.2.2.1,.ref p3])∧H p0=some (.tup us0)∧bI H us0 (q.1.map sD)∧H p1=some (.tup us1)∧bI H us1 (q.2.1.map sD) ∧
  H p3=some (.tup [.ref p4,.ref p5])∧H p4=some (.tup (q.2.2.2.1.map V.int))∧H p5=some (.tup (q.2.2.2.2.map V.int)):=by
 obtain ⟨p,us,rfl,hp,hd⟩:=aN h
 obtain ⟨b0,b1,b2,b3,rfl⟩:∃ b0 b1 b2 b3,us=[b0,b1,b2,b3]:=by
  match us,hd with
  | [b0,b1,b2,b3],_=>exact ⟨b0,b1,b2,b3,rfl⟩
  | [],h=>exact h.elim
  | [_],h=>exact h.2.elim
  | [_,_],h=>exact h.2.2.elim
  | [_,_,_],h=>exact h.2.2.2.elim
  | _ :: _ :: _ :: _ :: _ :: _,h=>exact h.2.2.2.2.elim
 obtain ⟨p0,us0,rfl,h0,hd0⟩:=aN hd.1
 obtain ⟨p1,us1,rfl,h1,hd1⟩:=aN hd.2.1
 have e2:b2=.int q.2.2.1:=hd.2.2.1
 subst e2
 obtain ⟨p3,us3,rfl,h3,hd3⟩:=aN hd.2.2.2.1
 obtain ⟨c0,c1,rfl⟩:∃ c0 c1,us3=[c0,c1]:=by
  match us3,hd3 with
  | [c0,c1],_=>exact ⟨c0,c1,rfl⟩
  | [],h=>exact h.elim
  | [_],h=>exact h.2.elim
  | _ :: _ :: _ :: _,h=>exact h.2.2.elim
 obtain ⟨p4,us4,rfl,h4,hd4⟩:=aN hd3.1
 obtain ⟨p5,us5,rfl,h5,hd5⟩:=aN hd3.2.1
 rw [KD hd4] at h4
 rw [KD hd5] at h5
 exact ⟨p,p0,p1,p3,p4,p5,us0,us1,rfl,hp,h0,hd0,h1,hd1,h3,h4,h5⟩
def cU (L R:List Prt) (ks:List Lnk) (al:Nms):D:=.tup [.tup (L.map bw),.tup (R.map bw),.tup (ks.map bY),gq al]
def bG (L:List Prt):List V:=L.map fun q=>mkT q.1
def qt (n:Nat) (k:Lnk):Nms:=if n=0 then k.1 else k.2.1
def aU (n:Nat) (ks:List Lnk):Nms:=ks.flatMap (qt n)
def pZ (K:PySem.W.Frag) (H:Hp) (v:V) (L R:List Prt) (ks:List Lnk) (al:Nms):Prop:=∃ (p pl pr pk pa:Addr) (ls rs us:List V),v=.ref p∧SqT K H p [.ref pl,.ref pr,.ref pk,.ref pa]∧SqT K H pl ls∧bI H ls (L.map bw)∧SqT K H pr rs∧bI H rs (R.map bw)∧SqT K H pk us∧bI H us (ks.map bY)∧SqT K H pa (al.map mkT)
theorem Dp {H:Hp}:∀ {cs:Nms} {vs:List V},bI H vs (cs.map sD)→vs=cs.map mkT
 | [],[],_=>rfl
 | _ :: cs,v :: vs,h=>by
  have e:v=mkT _:=h.1
  rw [e,Dp h.2]
  rfl
 | [],_ :: _,h=>h.elim
 | _ :: _,[],h=>h.elim
theorem cO (H:Hp):∀ cs:Nms,bI H (cs.map mkT) (cs.map sD)
 | []=>trivial
 | _ :: cs=>⟨rfl,cO H cs⟩
structure Er (L R:List Prt) (ks:List Lnk) (al:Nms):Prop where
 parts:∀ q∈L++R,tV q
 nd:((L++R).map (·.1)).Nodup
 lL:L.length≤1000
 lR:R.length≤1000
 links:∀ k∈ks,n8 k
 up:ks.Pairwise fun a b=>dlt (bY a) (bY b)=true
 lk:ks.length≤1000
 alone:wK al
 on:∀ x∈aU 0 ks,x∈L.map (·.1)
 off:∀ x∈aU 1 ks,x∈R.map (·.1)
 nd2:(aU 0 ks++aU 1 ks++al).Nodup
 len:(aU 0 ks++aU 1 ks++al).length≤4000
 al_in:∀ x∈al,x∈(L++R).map (·.1)
theorem pD {H:Hp} {v:V} {L R:List Prt} {ks:List Lnk} {al:Nms} (h:Den H v (cU L R ks al)):∃ (p pl pr pk pa:Addr) (ls rs us:List V),v=.ref p∧H p=some (.tup [.ref pl,.ref pr,.ref pk,.ref pa])∧H pl=some (.tup ls)∧bI H ls (L.map bw)∧H pr=some (.tup rs)∧bI H rs (R.map bw)∧H pk=some (.tup us)∧bI H us (ks.map bY)∧H pa=some (.tup (al.map mkT)):=by
 obtain ⟨p,us,rfl,hp,hd⟩:=aN h
 obtain ⟨b0,b1,b2,b3,rfl⟩:∃ b0 b1 b2 b3,us=[b0,b1,b2,b3]:=by
  match us,hd with
  | [b0,b1,b2,b3],_=>exact ⟨b0,b1,b2,b3,rfl⟩
  | [],h=>exact h.elim
  | [_],h=>exact h.2.elim
  | [_,_],h=>exact h.2.2.elim
  | [_,_,_],h=>exact h.2.2.2.elim
  | _ :: _ :: _ :: _ :: _ :: _,h=>exact h.2.2.2.2.elim
 obtain ⟨pl,ls,rfl,hpl,hdl⟩:=aN hd.1
 obtain ⟨pr,rs,rfl,hpr,hdr⟩:=aN hd.2.1
 obtain ⟨pk,ws,rfl,hpk,hdk⟩:=aN hd.2.2.1
 obtain ⟨pa,as,rfl,hpa,hda⟩:=aN hd.2.2.2.1
 rw [Dp hda] at hpa
 exact ⟨p,pl,pr,pk,pa,ls,rs,ws,rfl,hp,hpl,hdl,hpr,hdr,hpk,hdk,hpa⟩
theorem pZ.of {K:PySem.W.Frag} {H:Hp} {v:V} {L R:List Prt} {ks:List Lnk} {al:Nms} (h:Den H v (cU L R ks al)):pZ K H v L R ks al:=by
 obtain ⟨p,pl,pr,pk,pa,ls,rs,us,rfl,a1,a2,a3,a4,a5,a6,a7,a8⟩:=pD h
 exact ⟨p,pl,pr,pk,pa,ls,rs,us,rfl,SqT.of a1,SqT.of a2,a3,SqT.of a4,a5,SqT.of a6,a7,SqT.of a8⟩
theorem nu {α:Type} {p:α→Bool}:∀ {xs:List α} {i:Nat} (hi:i < xs.length),(∀ x∈xs.take i,p x=false)→p xs[i]=true→xs.find? p=some xs[i]
 | x :: xs,0,_,_,h=>by
  rw [List.find?_cons,show p x=true from h]
  rfl
 | x :: xs,i+1,hi,h0,h=>by
  rw [List.find?_cons,h0 x (by rw [List.take_succ_cons]; exact .head _)]
  exact nu (by simpa using hi) (fun y hy=>h0 y (by rw [List.take_succ_cons]; exact .tail _ hy)) h
theorem fH {H:Hp} {v:V} {q:Prt} (h:Den H v (bw q)):∃ (b pm:Addr),v=.ref b∧H b=some (.tup [mkT q.1,mkT q.2.1,.ref pm])∧H pm=some (.tup (q.2.2.map V.int)):=by
 obtain ⟨b,bs,rfl,hb,hbd⟩:=aN h
 match bs,hbd with
 | [c0,c1,c2],hbd =>
  have e0:c0=mkT q.1:=hbd.1
  have e1:c1=mkT q.2.1:=hbd.2.1
  obtain ⟨pm,ms,rfl,h1,h2⟩:=aN hbd.2.2.1
  rw [KD h2] at h1
  exact ⟨b,pm,rfl,by rw [hb,e0,e1],h1⟩
 | [],h=>exact h.elim
 | [_],h=>exact h.2.elim
 | [_,_],h=>exact h.2.2.elim
 | _ :: _ :: _ :: _ :: _,h=>exact h.2.2.2.elim
def bK (ps:List Prt) (x:List Nat):Option Prt:=ps.find? fun p=>decide (p.1=x)
def jR (K:PySem.W.Frag) (C:Addr):Sp:=fun vs H Q E=>∃ (v:V) (L R:List Prt) (ks:List Lnk) (al:Nms) (x:List Nat),vs=[v,mkT x]∧pZ K H v L R ks al∧L.length≤60∧R.length≤60∧x.length≤1000 ∧
 (∀ p,bK (L++R) x=some p→∀ (u:V) (H':Hp),Same H H'→Den H' u (bw p)→Q u H')∧(bK (L++R) x=none→cJ C H E)
section
variable {P:Program} {w:World} {K:PySem.W.Frag} {mg:Str→Option Value} {base:Heap} {a_NoPart:Addr}
theorem vQ:aQ ["book", "name", "part"] ["book", "name"] (aC qb):=⟨rfl,rfl,rfl,by decide +kernel,rfl,by decide +kernel,by decide +kernel⟩
theorem yc (h:Has K mg "part_of" qb ["book", "name"]) (q_NoPart:mg "NoPart" = some (.ref a_NoPart)) (x_NoPart:PySem.W.excIn K a_NoPart vBm "ValueError.__new__" = true):jP P w K mg base "part_of" 1 ["book", "name"] (jR K a_NoPart):=by
 refine h.mk1 vQ (fun vs H Q E hs=>?_) (fun f cdv A outer s H vs Q E hr hs=>?_)
 ·obtain ⟨v,L,R,ks,al,x,rfl,_⟩:=hs
  rfl
 obtain ⟨v,L,R,ks,al,x,rfl,hv,hlL,hlR,hlx,k1,k2⟩:=hs
 refine ⟨_,(au (dB PassesOwn.leaving rfl (fO (aX Dc (aY bC (pv 0) aA (fun _ _=>rfl)) (aY bC (pv 0) aA (fun _ _=>rfl)))) (aO (i:=2) vQ.nd rfl (Or.inl rfl))
   (aD (dJ (aZ iT (aY bC (pv 2) aA (fun _ _=>rfl)) (pv 1) (bF _))
   (aD (aV (pv 2)))
   bH)))
  (aD (vU rfl zB rfl q_NoPart x_NoPart (aj (zm (lJ aG (lJ (yS (pv 1)) Gq))) ao)))),?_⟩
 obtain ⟨p,pl,pr,pk,pa,ls,rs,ws,rfl,hp,hpl,hdl,hpr,hdr,hpk,hdk,hpa⟩:=hv
 have at0:atI [V.ref pl,V.ref pr,V.ref pk,V.ref pa] 0=some (.ref pl):=bx _ _
 have at1:atI [V.ref pl,V.ref pr,V.ref pk,V.ref pa] 1=some (.ref pr):=aW (xs:=[V.ref pl,V.ref pr,V.ref pk,V.ref pa]) (j:=1) rfl
 have hl1:=hdl.len
 have hl2:=hdr.len
 rw [List.length_map] at hl1 hl2
 refine ⟨_,rfl,p,_,_,_,rfl,rfl,hp,at0,_,rfl,p,_,_,_,rfl,rfl,hp,at1,pl,pr,_,_,rfl,rfl,hpl,hpr,small (by omega),fun q3 H3 s3 e3=>?_⟩
 have dA:bI H (ls++rs) ((L++R).map bw):=by
  rw [List.map_append]
  exact dG hdl hdr
 refine ⟨q3,rfl,⟨_,e3⟩,?_⟩
 refine jA (K:=K) (a:=q3) (xs:=ls++rs) (fun j σ H4=>∃ v2:Option V,σ=[some (.ref p),some (mkT x),v2]∧Same H H4∧SqT K H4 q3 (ls++rs)∧∀ q∈(L++R).take j,decide (q.1=x)=false) ⟨_,rfl,s3,e3,fun q hq=>by rw [List.take_zero] at hq; cases hq⟩ ?_ ?_ ?_
 ·rintro j σ H4 _ ⟨_,_,_,e4,_⟩
  exact e4
 ·rintro j y σ H4 hj ⟨v2,rfl,s4,e4,hno⟩
  obtain ⟨dd,hdd,dyp⟩:=dA.at_ hj
  have hnj:j < (L++R).length:=by
   have:=(List.getElem?_eq_some_iff.mp hdd).1
   rwa [List.length_map] at this
  rw [List.getElem?_map,List.getElem?_eq_getElem hnj] at hdd
  have edd:bw (L++R)[j]=dd:=Option.some.inj hdd
  subst edd
  have htk:(L++R).take (j+1)=(L++R).take j++[(L++R)[j]]:=by
   rw [List.take_add_one,List.getElem?_eq_getElem hnj]
   rfl
  have hfirst:decide ((L++R)[j].1=x)=true→bK (L++R) x=some (L++R)[j]:=fun h=>nu hnj hno h
  generalize (L++R)[j]=q at dyp htk hfirst
  obtain ⟨bq,pm,rfl,hbq,hpm⟩:=fH (dyp.same s4)
  refine gN ⟨_,rfl,bq,_,_,_,rfl,rfl,SqT.of hbq,bx _ _,_,rfl,rfl,_,rfl,?_⟩
  have ez:∀ a b:List Nat,decide (mkT a=mkT b)=decide (a=b):=fun a b=>by
   by_cases h:a=b
   ·subst h; simp
   ·rw [decide_eq_false h]
    exact decide_eq_false fun z=>h (by injection z with z; injection z with z; exact (Array.mk.inj z))
  refine gR (fun z=>?_) (fun z=>?_)
  ·have z':decide (q.1=x)=true:=by rw [← ez]; exact z
   exact ⟨_,rfl,k1 q (hfirst z') _ _ s4 (dyp.same s4)⟩
  ·have z':decide (q.1=x)=false:=by rw [← ez]; exact Bool.eq_false_iff.mpr z
   refine ⟨_,rfl,s4,e4,fun q' hq'=>?_⟩
   rw [htk] at hq'
   rcases List.mem_append.mp hq' with h | h
   ·exact hno q' h
   ·rw [List.mem_singleton.mp h]; exact z'
 ·rintro σ H4 ⟨v2,rfl,s4,e4,hno⟩
  have hn:bK (L++R) x=none:=List.find?_eq_none.mpr fun q hq=>by
   have hlen:(ls++rs).length=(L++R).length:=by rw [List.length_append,List.length_append,hl1,hl2]
   have:=hno q (by rw [hlen,List.take_length]; exact hq)
   rw [this]; decide
  have th:=(k2 hn).up s4
  have hx1:(⟨x.toArray⟩:Str).length≤sizeLine:=by
   show x.toArray.size≤sizeLine
   rw [List.size_toArray]; exact Nat.le_of_lt (aJ hlx)
  have hx2:((Str.empty++Str.ofString "there is no part ")++(⟨x.toArray⟩:Str)).length≤sizeLine:=by
   rw [strLen_append]
   have e1:(Str.empty++Str.ofString "there is no part ").length=17:=by decide +kernel
   rw [e1]
   show 17+x.toArray.size≤sizeLine
   rw [List.size_toArray]
   exact Nat.le_trans (Nat.add_le_add_left hlx 17) (by decide)
  refine ⟨_,rfl,by decide +kernel,_,rfl,.inl ⟨_,rfl,hx1,_,rfl,hx2,hx2,?_⟩⟩
  exact ⟨smn 1,fun e T he hT=>th.made he hT⟩
end
def uF (K:PySem.W.Frag) (C:Addr):Sp:=fun vs H Q E=>∃ (v:V) (L R:List Prt) (ks:List Lnk) (al:Nms) (x:List Nat),vs=[v,mkT x]∧pZ K H v L R ks al∧L.length≤60∧R.length≤60∧x.length≤1000 ∧
 (∀ p,bK (L++R) x=some p→∀ (H':Hp),Same H H'→Q (mkT p.2.1) H')∧(bK (L++R) x=none→cJ C H E)
def lY (K:PySem.W.Frag) (C:Addr):Sp:=fun vs H Q E=>∃ (v:V) (L R:List Prt) (ks:List Lnk) (al:Nms) (x:List Nat),vs=[v,mkT x]∧pZ K H v L R ks al∧L.length≤60∧R.length≤60∧x.length≤1000 ∧
 (∀ p,bK (L++R) x=some p→∀ (u:V) (H':Hp),Same H H'→Den H' u (CJ p.2.2)→Q u H')∧(bK (L++R) x=none→cJ C H E)
theorem Ep (a b:Prt):Sim (bw a) (bw b):=by
 unfold bw
 exact wR (gW (pP _ _) (gW (pP _ _) (gW (rZ _ _) (uG _))))
theorem jd {q:Prt} (h:q.2.2.length≤1000):eO 2 (bw q):=by
 refine cV (by simp) fun d hd=>?_
 simp only [List.mem_cons,List.not_mem_nil,or_false] at hd
 rcases hd with rfl | rfl | rfl
 ·exact (dD _).up
 ·exact (dD _).up
 ·exact pG h
theorem Ft {a b:Prt} (h:bw a=bw b):a.1=b.1:=by
 unfold bw at h
 injection h with h
 injection h with h _
 injection h with h
 injection h with h
 exact Array.mk.inj h
theorem Hy {L R:List Prt} {x:List Nat} {p:Prt} (h:bK (L++R) x=some p):(L.map bw).any (fun e=>eqD e (bw p))=(bK L x).isSome:=by
 unfold bK at h ⊢
 rw [List.find?_append] at h
 cases q:L.find? (fun p=>decide (p.1=x)) with
 | some r =>
  rw [q] at h
  cases h
  rw [Option.isSome_some,List.any_eq_true]
  exact ⟨_,List.mem_map_of_mem (List.mem_of_find?_eq_some q),eU.mpr rfl⟩
 | none =>
  rw [q] at h
  have h':R.find? (fun p=>decide (p.1=x))=some p:=h
  have hx:p.1=x:=of_decide_eq_true (List.find?_some (p:=fun p:Prt=>decide (p.1=x)) h')
  rw [Option.isSome_none,List.any_eq_false]
  intro e he z
  obtain ⟨r,hr,rfl⟩:=List.mem_map.mp he
  have:=Ft (eU.mp z)
  exact List.find?_eq_none.mp q r hr (decide_eq_true (this.trans hx))
def vq (K:PySem.W.Frag) (C:Addr):Sp:=fun vs H Q E=>∃ (v:V) (L R:List Prt) (ks:List Lnk) (al:Nms) (x:List Nat),vs=[v,mkT x]∧pZ K H v L R ks al∧L.length≤60∧R.length≤60∧x.length≤1000∧(∀ p∈L++R,p.2.2.length≤1000) ∧
 (∀ p,bK (L++R) x=some p→∀ (H':Hp),Same H H'→Q (.int (if (bK L x).isSome then 0 else 1)) H')∧(bK (L++R) x=none→cJ C H E)
section
variable {P:Program} {w:World} {K:PySem.W.Frag} {mg:Str→Option Value} {base:Heap} {a_NoPart:Addr}
theorem Fq:aQ ["book", "name"] ["book", "name"] (aC nZ):=⟨rfl,rfl,rfl,by decide +kernel,rfl,by decide +kernel,by decide +kernel⟩
theorem Bb (h:Has K mg "text_of" nZ ["book", "name"]) (C_part_of:jP P w K mg base "part_of" 1 ["book", "name"] (jR K a_NoPart)):jP P w K mg base "text_of" 2 ["book", "name"] (uF K a_NoPart):=by
 refine h.mk1 Fq (fun vs H Q E hs=>?_) (fun f cdv A outer s H vs Q E hr hs=>?_)
 ·obtain ⟨v,L,R,ks,al,x,rfl,_⟩:=hs
  rfl
 obtain ⟨v,L,R,ks,al,x,rfl,hv,hlL,hlR,hlx,k1,k2⟩:=hs
 refine ⟨_,(aD (aV (aY bC (fM C_part_of hr (by decide) rfl fj (aj (pv 0) (aj (pv 1) ao))) aA (fun _ _=>rfl)))),?_⟩
 refine ⟨_,rfl,_,rfl,v,L,R,ks,al,x,rfl,hv,hlL,hlR,hlx,fun p hp u H' s' d=>?_,fun z=>(k2 z).out⟩
 obtain ⟨b,pm,rfl,hb,hpm⟩:=fH d
 exact ⟨b,_,_,_,rfl,rfl,SqT.of hb,aW (xs:=[mkT p.1,mkT p.2.1,V.ref pm]) (j:=1) rfl,k1 p hp H' s'⟩
theorem rP:aQ ["book", "name"] ["book", "name"] (aC gH):=⟨rfl,rfl,rfl,by decide +kernel,rfl,by decide +kernel,by decide +kernel⟩
theorem qP (h:Has K mg "moments_of" gH ["book", "name"]) (C_part_of:jP P w K mg base "part_of" 1 ["book", "name"] (jR K a_NoPart)):jP P w K mg base "moments_of" 2 ["book", "name"] (lY K a_NoPart):=by
 refine h.mk1 rP (fun vs H Q E hs=>?_) (fun f cdv A outer s H vs Q E hr hs=>?_)
 ·obtain ⟨v,L,R,ks,al,x,rfl,_⟩:=hs
  rfl
 obtain ⟨v,L,R,ks,al,x,rfl,hv,hlL,hlR,hlx,k1,k2⟩:=hs
 refine ⟨_,(aD (aV (aY bC (fM C_part_of hr (by decide) rfl fj (aj (pv 0) (aj (pv 1) ao))) aA (fun _ _=>rfl)))),?_⟩
 refine ⟨_,rfl,_,rfl,v,L,R,ks,al,x,rfl,hv,hlL,hlR,hlx,fun p hp u H' s' d=>?_,fun z=>(k2 z).out⟩
 obtain ⟨b,pm,rfl,hb,hpm⟩:=fH d
 exact ⟨b,_,_,_,rfl,rfl,SqT.of hb,aW (xs:=[mkT p.1,mkT p.2.1,V.ref pm]) (j:=2) rfl,k1 p hp (.ref pm) H' s' ⟨pm,_,rfl,hpm,fG H' _⟩⟩
theorem En:aQ ["book", "name"] ["book", "name"] (aC oJ):=⟨rfl,rfl,rfl,by decide +kernel,rfl,by decide +kernel,by decide +kernel⟩
theorem yx (h:Has K mg "side_of" oJ ["book", "name"]) (C_part_of:jP P w K mg base "part_of" 1 ["book", "name"] (jR K a_NoPart)):jP P w K mg base "side_of" 2 ["book", "name"] (vq K a_NoPart):=by
 refine h.mk1 En (fun vs H Q E hs=>?_) (fun f cdv A outer s H vs Q E hr hs=>?_)
 ·obtain ⟨v,L,R,ks,al,x,rfl,_⟩:=hs
  rfl
 obtain ⟨v,L,R,ks,al,x,rfl,hv,hlL,hlR,hlx,hmo,k1,k2⟩:=hs
 refine ⟨_,(aD (aV (nY (aZ (LC hr.units) (fM C_part_of hr (by decide) rfl fj (aj (pv 0) (aj (pv 1) ao))) (aY bC (pv 0) aA (fun _ _=>rfl)) (by with_unfolding_all rfl)) aA aA))),?_⟩
 refine ⟨_,rfl,_,rfl,v,L,R,ks,al,x,rfl,hv,hlL,hlR,hlx,fun p hp u H' s' d=>?_,fun z=>(k2 z).out⟩
 obtain ⟨pb,pl,pr,pk,pa,ls,rs,ws,rfl,hpb,hpl,hdl,hpr,hdr,hpk,hdk,hpa⟩:=hv
 have at0:atI [V.ref pl,V.ref pr,V.ref pk,V.ref pa] 0=some (.ref pl):=bx _ _
 have hpm:p∈L++R:=List.mem_of_find?_eq_some hp
 refine ⟨_,rfl,pb,_,_,_,rfl,rfl,(stT s' hpb),at0,pl,ls,bw p,L.map bw,2,rfl,.inr (stT s' hpl),d,hdl.same s',(fun e he=>?_),⟨_,rfl⟩,jd (hmo p hpm),(fun e he=>?_),by decide,?_⟩
 ·obtain ⟨r,_,rfl⟩:=List.mem_map.mp he
  exact ⟨_,rfl⟩
 ·obtain ⟨r,hr,rfl⟩:=List.mem_map.mp he
  exact ⟨jd (hmo r (List.mem_append_left _ hr)),Ep _ _⟩
 rw [Hy hp]
 have kk:=k1 p hp H' s'
 refine ⟨_,rfl,?_⟩
 cases hq:(bK L x).isSome with
 | true =>
  rw [hq] at kk
  exact kk
 | false =>
  rw [hq] at kk
  exact kk
end
def Fz:Sp:=fun vs H Q _=>∃ c:Nat,vs=[.str ⟨#[c]⟩]∧Q (.bl (M01.isW c)) H
def oM:Sp:=fun vs H Q _=>∃ x:Str,vs=[.str x]∧x.length≤5000∧∀ (t:Addr) (H':Hp),Same H H'→H' t=some (.tup (((M01.wds x.cps.toList).map fun r=>(⟨r.toArray⟩:Str)).map V.str))→Q (.ref t) H'
section
open M01
variable {P:Program} {w:World} {K:PySem.W.Frag} {mg:Str→Option Value} {base:Heap}
theorem Pn:aQ ["sign"] ["sign"] (aC Mu):=⟨rfl,rfl,rfl,by decide +kernel,rfl,by decide +kernel,by decide +kernel⟩
theorem K8 {c:Nat} {σ:L2.St} {H:Hp} {Q:VK} (h0:σ[0]?=some (some (.str ⟨#[c]⟩))) (q:Q (.bl (isW c)) H) :
  Pa (rJ FW FW (tC (.str "a")) (qU 0) (tC (.str "z"))) (Pa (rJ FW FW (tC (.str "A")) (qU 0) (tC (.str "Z"))) (rJ FW FW (tC (.str "0")) (qU 0) (tC (.str "9")))) σ H Q:=by
 unfold isW at q
 refine jx (a:=97) (b:=122) (by decide +kernel) (by decide +kernel) h0 ⟨_,rfl,?_⟩
 refine gR (fun h=>?_) (fun h=>?_)
 ·rw [h] at q
  exact q
 ·have h':decide (97≤c∧c≤122)=false:=by simpa using h
  rw [h',Bool.false_or] at q
  refine jx (a:=65) (b:=90) (by decide +kernel) (by decide +kernel) h0 ⟨_,rfl,?_⟩
  refine gR (fun g=>?_) (fun g=>?_)
  ·rw [g] at q
   exact q
  ·have g':decide (65≤c∧c≤90)=false:=by simpa using g
   rw [g',Bool.false_or] at q
   exact jx (a:=48) (b:=57) (by decide +kernel) (by decide +kernel) h0 q
theorem LK {f:Addr} {fd:FuncData} (F:Fun K "is_word_sign" "is_word_sign" Mu f fd):jQ P w K mg base CX0 1 f fd ["sign"] Fz:=by
 refine F.ok Pn (fun vs H Q E h=>?_) (fun cdv A outer s H vs Q E hr h=>?_)
 ·obtain ⟨c,rfl,_⟩:=h
  rfl
 obtain ⟨c,rfl,q⟩:=h
 refine ⟨_,aD (aV (Hv (pL mV mV aG (pv 0) aG) (Hv (pL mV mV aG (pv 0) aG) (Cg (pL mV mV aG (pv 0) aG))))),?_⟩
 exact K8 rfl q
theorem zp:aQ ["text", "spaced"] ["text"] (aC nG):=⟨rfl,rfl,rfl,by decide +kernel,rfl,by decide +kernel,by decide +kernel⟩
theorem Fv {f fW:Addr} {fd fdW:FuncData} (F:Fun K "words_of" "words_of" nG f fd) (GW:jQ P w K mg base CX0 1 fW fdW ["sign"] Fz) (bW:Binds K fdW ["sign"] []) (kW:PySem.W.keepIn K (.ref fW)=true) (mW:mg "is_word_sign" = some (.ref fW)) (mtuple:mg "tuple" = none) :
  jQ P w K mg base CX0 2 f fd ["text"] oM:=by
 refine F.ok zp (fun vs H Q E h=>?_) (fun cdv A outer s H vs Q E hr h=>?_)
 ·obtain ⟨x,rfl,_⟩:=h
  rfl
 obtain ⟨x,rfl,hx,k⟩:=h
 refine ⟨_,au (aH (i:=1) zp.nd rfl (Or.inl rfl) (gB PySem.F.plainAttrs_str PySem.F.slot_str_join PySem.F.type_str_join JF aG (aj
   (cM ["text", "spaced"] (aC nG) ["sign"] [none] rfl rfl rfl (Nb (pv 0)) rfl (by decide +kernel) (by decide +kernel) (by decide +kernel) (by decide +kernel)
    (fun cl C s H ex pn E=>aO (i:=0) (by decide +kernel:(["sign"]:List Str).Nodup) rfl (Or.inl rfl)) (fun cl C s H ex pn E=>cD)
    (fun cl C s H ex pn E=>nY (uz (Ay GW hr rfl mW kW bW .nil Ls (aj (pv 0) ao))) (pv 0) aG)) ao)))
  (aD (aV (aM aL rfl mtuple boot_tuple (aj (K7 PySem.F.plainAttrs_str PySem.F.slot_str_split PySem.F.type_str_split Ej (pv 1)) ao)))),?_⟩
 have hlen:x.cps.toList.length=x.length:=by simp [Str.length]
 refine ⟨rfl,_,rfl,x,rfl,fun l hl=>?_⟩
 refine fu (J:=Its x) (l:=l) x.cps.size (fun i σ' H'=>∃ v:Option V,σ'=[v]∧H'=upd H l (.lst ((x.cps.toList.take i).map fun c=>V.str ⟨#[bl c]⟩))) ⟨none,rfl,rfl⟩ ?_ ?_
 ·rintro σ' H' ⟨v,rfl,rfl⟩
  have e:x.cps.toList.take x.cps.size=x.cps.toList:=by rw [← Array.length_toList]; exact List.take_length
  rw [e]
  have em:(x.cps.toList.map fun c=>V.str ⟨#[bl c]⟩)=((x.cps.toList.map bl).map fun c=>(⟨#[c]⟩:Str)).map V.str:=by
   rw [List.map_map,List.map_map]
   rfl
  rw [em]
  refine ⟨Nat.le_refl _,_,l,(x.cps.toList.map bl).map (fun c=>(⟨#[c]⟩:Str)),rfl,rfl,SqL.of ak,zA (by decide +kernel) _ (by rw [List.length_map,hlen]; omega),?_⟩
  have ej:∀ y:Str,y=⟨#[]⟩→Str.join y ((x.cps.toList.map bl).map fun c=>(⟨#[c]⟩:Str))=⟨(x.cps.toList.map bl).toArray⟩:=fun y hy=>by
   subst hy
   exact join_ones _
  rw [ej _ (by decide +kernel)]
  refine ⟨_,rfl,rfl,_,rfl,rfl,?_,fun l2 hl2=>?_⟩
  ·show (x.cps.toList.map bl).toArray.size≤100000
   rw [List.size_toArray,List.length_map,hlen]
   omega
  ·rw [Ce]
   refine ⟨l2,_,rfl,.inl ⟨SqL.of ak,fun t ht=>?_⟩⟩
   exact k t _ ((aq hl _).trans ((aq hl2 _).trans (aq ht _))) ak
 ·rintro i σ' H' hi ⟨v,rfl,rfl⟩
  refine ⟨hi,?_⟩
  rintro y H'' ⟨rfl,c,hc,rfl⟩
  have ht:x.cps.toList.take (i+1)=x.cps.toList.take i++[c]:=by
   rw [List.take_add_one]
   have hc':x.cps.toList[i]?=some c:=by simpa using hc
   rw [hc']
   rfl
  have fin:∃ ys,(upd H l (.lst ((x.cps.toList.take i).map fun c=>V.str ⟨#[bl c]⟩))) l=some (.lst ys)∧ys.length < sizeLine ∧
    ∃ v1:Option V,([v].set 0 (some (V.str ⟨#[c]⟩)):L2.St)=[v1]∧upd (upd H l (.lst ((x.cps.toList.take i).map fun c=>V.str ⟨#[bl c]⟩))) l (.lst (ys++[V.str ⟨#[bl c]⟩]))=upd H l (.lst ((x.cps.toList.take (i+1)).map fun c=>V.str ⟨#[bl c]⟩)):=by
   refine ⟨_,ak,?_,_,rfl,?_⟩
   ·rw [List.length_map,List.length_take]
    have:x.cps.size=x.length:=rfl
    exact Nat.lt_of_le_of_lt (Nat.min_le_left _ _) (Nat.lt_of_lt_of_le (show _ < 1000000 by omega) bJ)
   ·rw [gG,ht,List.map_append]
    rfl
  refine gN (xR (oX ?_))
  refine ⟨_,rfl,c,rfl,_,rfl,?_⟩
  refine gR (fun h=>?_) (fun h=>?_)
  ·refine ⟨_,rfl,?_⟩
   have e:bl c=c:=by unfold bl; rw [if_pos h]
   rw [e] at fin
   exact fin
  ·have e:bl c=32:=by unfold bl; rw [if_neg h]
   rw [e] at fin
   exact fin
end
section
variable {P:Program} {w:World} {K:PySem.W.Frag} {mg:Str→Option Value} {base:Heap}
theorem Ot (h:Has K mg "is_word_sign" Mu ["sign"]):Cal P w K mg base "is_word_sign" 1 ["sign"] Fz:=h.cal fun f fd F _ _=>LK F
theorem HB (h:Has K mg "words_of" nG ["text"]) (C_isw:Cal P w K mg base "is_word_sign" 1 ["sign"] Fz) (m_tuple:mg "tuple" = none):Cal P w K mg base "words_of" 2 ["text"] oM:=by
 obtain ⟨fT,fdT,GT,bT,kT,mT⟩:=C_isw.ex
 exact h.cal fun f fd F _ _=>Fv F GT bT kT mT m_tuple
end
theorem Dh {a b:List Nat} (h:mkT a=mkT b):a=b:=by
 injection h with h
 injection h with h
 exact Array.mk.inj h
theorem Qd (a b:List Nat):decide (mkT a=mkT b)=decide (a=b):=by
 by_cases h:a=b
 ·subst h; simp
 ·rw [decide_eq_false h]
  exact decide_eq_false fun z=>h (Dh z)
theorem Od {xs:List V} {r:Nat} (h:r≤xs.length):rM xs none (some (r:Int))=xs.take r:=by
 unfold rM
 rw [HT.tO,HT.pR,Nat.min_eq_left h]
 simp
theorem Rb {xs:List V} {r:Nat} (h:r≤xs.length):rM xs (some (r:Int)) none=xs.drop r:=by
 unfold rM
 rw [HT.tO,HT.pR,Nat.min_eq_left h]
 exact List.take_of_length_le (by rw [List.length_drop]; omega)
theorem Jx (xs:List V) (n:Nat) (t:V) (h:n < xs.length):xs.take n++[t]++xs.drop (n+1)=xs.set n t:=by
 rw [List.set_eq_take_append_cons_drop,if_pos h,List.append_assoc]
 rfl
def ni:Sp:=fun vs H Q _=>∃ (p:Addr) (us:List V) (n:Nat) (t:V),vs=[.ref p,.int (n:Nat),t]∧H p=some (.tup us)∧n < us.length∧us.length≤900∧∀ (q:Addr) (H':Hp),Same H H'→H' q=some (.tup (us.set n t))→Q (.ref q) H'
def jM (L:List Prt) (x:List Nat):Nat:=if (bK L x).isSome then 0 else 1
theorem M6 (x:List Nat) (xs:Nms):inV (mkT x) (xs.map mkT)=decide (x∈xs):=by
 have e:xs.map mkT=(xs.map fun x=>(⟨x.toArray⟩:Str)).map V.str:=by rw [List.map_map]; rfl
 rw [e,zF,Bool.eq_iff_iff,decide_eq_true_eq,decide_eq_true_eq]
 constructor
 ·intro h
  obtain ⟨y,hy,e⟩:=List.mem_map.mp h
  have:y=x:=by injection e with e; exact Array.mk.inj e
  rw [← this]; exact hy
 ·exact fun h=>List.mem_map.mpr ⟨x,h,rfl⟩
theorem Eb (xs:Nms):(xs.map mkT).all ig=true:=by
 rw [List.all_eq_true]
 intro v hv
 obtain ⟨x,_,rfl⟩:=List.mem_map.mp hv
 rfl
theorem vY (L:List Prt):bG L=(L.map (·.1)).map mkT:=by
 unfold bG
 rw [List.map_map]
 rfl
theorem dM {L:List Prt} {x:List Nat}:(bK L x).isSome=decide (x∈L.map (·.1)):=by
 unfold bK
 rw [Bool.eq_iff_iff,List.find?_isSome,decide_eq_true_eq,List.mem_map]
 exact ⟨fun ⟨p,h1,h2⟩=>⟨p,h1,of_decide_eq_true h2⟩,fun ⟨p,h1,h2⟩=>⟨p,h1,decide_eq_true h2⟩⟩
theorem lQ (x:List Nat):(⟨x.toArray⟩:Str).length=x.length:=by
 show x.toArray.size=_
 rw [List.size_toArray]
theorem eV {n:Nat} (h:n≤10000):n≤sizeLine:=Nat.le_trans (show n≤1000000 by omega) bJ
theorem NT:Str.empty.length=0:=rfl
theorem Lr {c:String} {x:List Nat} (hx:x.length≤1000) (hc:(Str.ofString c).length≤100):((Str.empty++(⟨x.toArray⟩:Str))++Str.ofString c).length≤sizeLine:=by
 rw [strLen_append,strLen_append]
 have h1:=lQ x
 have h2:=NT
 exact eV (by omega)
section
variable {P:Program} {w:World} {K:PySem.W.Frag} {mg:Str→Option Value} {base:Heap} {a_NoPart a_NoPlace a_Twice:Addr}
theorem xK:aQ ["row", "place", "thing"] ["row", "place", "thing"] (aC iM):=⟨rfl,rfl,rfl,by decide +kernel,rfl,by decide +kernel,by decide +kernel⟩
theorem xO (h:Has K mg "replaced" iM ["row", "place", "thing"])  : Cal P w K mg base "replaced" 1 ["row", "place", "thing"] ni:=by
 refine h.mk' xK (fun vs H Q E hs=>?_) (fun f cdv A outer s H vs Q E hr hs=>?_)
 ·obtain ⟨p,us,n,t,rfl,_⟩:=hs
  rfl
 obtain ⟨p,us,n,t,rfl,hp,hn,hl,k⟩:=hs
 refine ⟨_,(aD (aV (aX je (aX je (cC nU (pv 0) dh (dg (pv 1))) (cB (aj (pv 2) ao))) (cC nU (pv 0) (dg (aX dj (pv 1) aA)) dh)))),?_⟩
 refine ⟨_,rfl,_,rfl,_,rfl,p,us,rfl,hp,fun p1 H1 s1 e1=>?_⟩
 rw [Od (by omega)] at e1
 refine ⟨_,rfl,smn 1,fun p2 hp2=>?_⟩
 have s2:=aq hp2 (.tup [t])
 have e2:(upd H1 p2 (.tup [t])) p2=some (.tup [t]):=ak
 generalize upd H1 p2 (.tup [t])=H2 at s2 e2 ⊢
 refine ⟨p1,p2,_,_,rfl,rfl,s2 _ _ e1,e2,small (by rw [List.length_take]; show _+1≤1000; omega),fun p3 H3 s3 e3=>?_⟩
 have s13:=(s1.trans s2).trans s3
 refine ⟨_,rfl,_,rfl,_,_,rfl,rfl,_,rfl,p,us,rfl,s13 _ _ hp,fun p4 H4 s4 e4=>?_⟩
 have e4':H4 p4=some (.tup (us.drop (n+1))):=by
  have e:rM us (some (((n:Nat):Int)+1)) none=us.drop (n+1):=Rb (r:=n+1) (by omega)
  rw [← e]
  exact e4
 refine ⟨p3,p4,_,_,rfl,rfl,s4 _ _ e3,e4',small (by rw [List.length_append,List.length_take,List.length_drop]; show _+1+_≤1000; omega),fun p5 H5 s5 e5=>?_⟩
 rw [Jx _ _ _ hn] at e5
 exact k p5 H5 ((s13.trans s4).trans s5) e5
end
def sdP (n:Nat) (L R:List Prt):List Prt:=if n=0 then L else R
def gQ (n:Nat) (L R:List Prt) (M:List Prt):List Prt × List Prt:=if n=0 then (M,R) else (L,M)
theorem Gd (L:List Prt) (x:List Nat):jM L x≤1:=by
 unfold jM
 split <;> omega
theorem CW {H:Hp} {L R:List Prt} {ls rs:List V} {pl pr pk pa:Addr} {n:Nat} (hn:n≤1) (h1:H pl=some (.tup ls)) (d1:bI H ls (L.map bw)) (h2:H pr=some (.tup rs)) (d2:bI H rs (R.map bw)) :
  ∃ (p:Addr) (us:List V),atI [V.ref pl,V.ref pr,V.ref pk,V.ref pa] (n:Nat)=some (.ref p)∧H p=some (.tup us)∧bI H us ((sdP n L R).map bw):=by
 match n,hn with
 | 0,_=>exact ⟨pl,ls,bx _ _,h1,d1⟩
 | 1,_=>exact ⟨pr,rs,aW (xs:=[V.ref pl,V.ref pr,V.ref pk,V.ref pa]) (j:=1) rfl,h2,d2⟩
theorem Et {H:Hp} {q:Addr} {L R M:List Prt} {ks:List Lnk} {al:Nms} {ls rs us ws:List V} {pl pr pk pa p:Addr} {n:Nat} (hn:n≤1) (hq:H q=some (.tup ([V.ref pl,V.ref pr,V.ref pk,V.ref pa].set n (.ref p)))) (hp:H p=some (.tup ws)) (dp:bI H ws (M.map bw))
  (h1:H pl=some (.tup ls)) (d1:bI H ls (L.map bw)) (h2:H pr=some (.tup rs)) (d2:bI H rs (R.map bw)) (h3:H pk=some (.tup us)) (d3:bI H us (ks.map bY)) (h4:H pa=some (.tup (al.map mkT))) :
  Den H (.ref q) (cU (gQ n L R M).1 (gQ n L R M).2 ks al):=by
 match n,hn with
 | 0,_=>exact ⟨q,_,rfl,hq,⟨p,ws,rfl,hp,dp⟩,⟨pr,rs,rfl,h2,d2⟩,⟨pk,us,rfl,h3,d3⟩,⟨pa,_,rfl,h4,cO H al⟩,trivial⟩
 | 1,_=>exact ⟨q,_,rfl,hq,⟨pl,ls,rfl,h1,d1⟩,⟨p,ws,rfl,hp,dp⟩,⟨pk,us,rfl,h3,d3⟩,⟨pa,_,rfl,h4,cO H al⟩,trivial⟩
def gw:List Int→Int→List Int
 | [],t=>[t]
 | m :: ms,t=>if t < m then t :: m :: ms else if t=m then m :: ms else m :: gw ms t
theorem j7 {k t:Int}:∀ {ms:List Int},k∈gw ms t↔k∈ms∨k=t
 | []=>by simp [gw]
 | m :: ms=>by
  unfold gw
  have ih:=j7 (k:=k) (t:=t) (ms:=ms)
  by_cases h1:t < m
  ·rw [if_pos h1,List.mem_cons]
   exact Or.comm
  ·rw [if_neg h1]
   by_cases h2:t=m
   ·rw [if_pos h2]
    exact ⟨Or.inl,fun z=>z.elim id fun z=>by rw [z,h2]; exact .head _⟩
   ·rw [if_neg h2,List.mem_cons,ih,List.mem_cons,or_assoc]
theorem rQ {t:Int}:∀ {ms:List Int},ms.Pairwise (· < ·)→(gw ms t).Pairwise (· < ·)
 | [],_=>by simp [gw]
 | m :: ms,h=>by
  have h':=List.pairwise_cons.mp h
  unfold gw
  by_cases h1:t < m
  ·rw [if_pos h1]
   refine List.pairwise_cons.mpr ⟨fun k hk=>?_,h⟩
   rcases List.mem_cons.mp hk with z | z
   ·rw [z]; exact h1
   ·exact Int.lt_trans h1 (h'.1 k z)
  ·rw [if_neg h1]
   by_cases h2:t=m
   ·rw [if_pos h2]; exact h
   ·rw [if_neg h2]
    refine List.pairwise_cons.mpr ⟨fun k hk=>?_,rQ h'.2⟩
    rcases j7.mp hk with z | z
    ·exact h'.1 k z
    ·omega
theorem vL (t:Int):∀ ms:List Int,(gw ms t).length≤ms.length+1
 | []=>Nat.le_refl _
 | m :: ms=>by
  have:=vL t ms
  unfold gw
  split
  ·exact Nat.le_refl _
  ·split
   ·exact Nat.le_succ _
   ·rw [List.length_cons,List.length_cons]; omega
def qy:Sp:=fun vs H Q _=>∃ (p:Addr) (ms:List Int) (t:Int),vs=[.ref p,.int t]∧H p=some (.tup (ms.map V.int))∧ms.Pairwise (· < ·)∧ms.length≤60∧∀ (q:Addr) (H':Hp),Same H H'→H' q=some (.tup ((gw ms t).map V.int))→Q (.ref q) H'
def mH (L:List Prt) (q:Prt):List Prt:=L.map fun r=>if r.1=q.1 then q else r
def J9:Sp:=fun vs H Q _=>∃ (p:Addr) (us:List V) (L:List Prt) (t:V) (q:Prt),vs=[.ref p,t]∧H p=some (.tup us)∧bI H us (L.map bw)∧L.length≤900∧Den H t (bw q) ∧
 ∀ (r:Addr) (ws:List V) (H':Hp),Same H H'→H' r=some (.tup ws)→bI H' ws ((mH L q).map bw)→Q (.ref r) H'
def SmB (L R:List Prt):Prop:=L.length≤60∧R.length≤60∧∀ p∈L++R,p.2.2.length≤60∧p.2.2.Pairwise (· < ·)
def jE (L R:List Prt) (q:Prt):List Prt × List Prt:=gQ (jM L q.1) L R (mH (sdP (jM L q.1) L R) q)
def lu (C:Addr):Sp:=fun vs H Q E=>∃ (v:V) (L R:List Prt) (ks:List Lnk) (al:Nms) (x tx:List Nat) (t:Int),vs=[v,mkT x,mkT tx,.int t]∧Den H v (cU L R ks al)∧x.length≤1000∧SmB L R ∧
 (∀ (q:Prt),bK (L++R) x=some q→∀ (u:V) (H':Hp),Same H H'→Den H' u (cU (jE L R (x,tx,gw q.2.2 t)).1 (jE L R (x,tx,gw q.2.2 t)).2 ks al)→Q u H')∧(bK (L++R) x=none→cJ C H E)
def yL:Str:=Str.ofString "change"
def c3 (a b c:Addr):Nat→Addr
 | 0=>a
 | 1=>b
 | _=>c
def mQ (C:Nat→Addr):Sp:=fun vs H Q E=>∃ (v:V) (pd:Addr) (t:Int) (x tx:List Nat) (L R:List Prt) (ks:List Lnk) (al:Nms),vs=[v,.ref pd]∧Den H v (cU L R ks al)∧H pd=some (.tup [.str yL,.int t,mkT x,mkT tx])∧x.length≤1000∧SmB L R ∧
 (∀ (q:Prt),bK (L++R) x=some q→∀ (u:V) (H':Hp),Same H H'→Den H' u (cU (jE L R (x,tx,gw q.2.2 t)).1 (jE L R (x,tx,gw q.2.2 t)).2 ks al)→Q u H')∧(bK (L++R) x=none→cJ (C 0) H E)
section
variable {P:Program} {w:World} {K:PySem.W.Frag} {mg:Str→Option Value} {base:Heap} {a_NoPart a_NoPlace a_Twice:Addr}
theorem zx:aQ ["row", "thing"] ["row", "thing"] (aC jU):=⟨rfl,rfl,rfl,by decide +kernel,rfl,by decide +kernel,by decide +kernel⟩
theorem wY (h:Has K mg "with_one" jU ["row", "thing"]) (m_tuple:mg "tuple" = none) (m_sorted:mg "sorted" = none) (m_set:mg "set" = none):Cal P w K mg base "with_one" 1 ["row", "thing"] qy:=by
 refine h.mk' zx (fun vs H Q E hs=>?_) (fun f cdv A outer s H vs Q E hr hs=>?_)
 ·obtain ⟨p,ms,t,rfl,_⟩:=hs
  rfl
 obtain ⟨p,ms,t,rfl,hp,hu,hl,k⟩:=hs
 refine ⟨_,(aD (aV (aM aL rfl m_tuple boot_tuple (aj (aP (cW (w:=w) rfl rfl hr.units) rfl m_sorted boot_sorted (aj (aM (wL (w:=w) rfl rfl) rfl m_set boot_set (aj (aX je (pv 0) (cB (aj (pv 1) ao))) ao)) ao)) ao)))),?_⟩
 refine ⟨_,rfl,_,rfl,smn 1,fun p1 hp1=>?_⟩
 have s1:=aq hp1 (.tup [.int t])
 have e1:(upd H p1 (.tup [.int t])) p1=some (.tup [.int t]):=ak
 generalize upd H p1 (.tup [.int t])=H1 at s1 e1 ⊢
 refine ⟨p,p1,_,_,rfl,rfl,s1 _ _ hp,e1,small (by rw [List.length_map]; show _+1≤1000; omega),fun p2 H2 s2 e2=>?_⟩
 have e2':H2 p2=some (.tup ((ms++[t]).map V.int)):=by rw [e2,List.map_append]; rfl
 refine ⟨p2,ms++[t],rfl,SqT.of e2',by rw [List.length_append]; show _+1≤1001; omega,fun a ns ha hn hi hnl=>?_⟩
 rw [List.length_append] at hnl
 refine ⟨a,ns,rfl,ak,(by have:[t].length=1:=rfl; omega),fun l rs hl hp3 hs3=>?_⟩
 have er:rs=gw ms t:=Bv (rQ hu) hs3 (hp3.nodup_iff.mpr hn) fun k=>(hp3.mem_iff).trans ((hi k).trans (by rw [j7,List.mem_append,List.mem_singleton]))
 refine ⟨l,_,rfl,.inl ⟨SqL.of ak,fun q hq=>?_⟩⟩
 rw [er] at hq ⊢
 exact k q _ ((((s1.trans s2).trans (aq ha _)).trans (aq hl _)).trans (aq hq _)) ak
theorem mL:aQ ["parts", "part"] ["parts", "part"] (aC cQ):=⟨rfl,rfl,rfl,by decide +kernel,rfl,by decide +kernel,by decide +kernel⟩
theorem lD (h:Has K mg "parts_changed" cQ ["parts", "part"]) (m_tuple:mg "tuple" = none):Cal P w K mg base "parts_changed" 1 ["parts", "part"] J9:=by
 refine h.mk' mL (fun vs H Q E hs=>?_) (fun f cdv A outer s H vs Q E hr hs=>?_)
 ·obtain ⟨p,us,L,t,q,rfl,_⟩:=hs
  rfl
 obtain ⟨p,us,L,t,q,rfl,hp,hd,hl,ht,k⟩:=hs
 refine ⟨_,(aD (aV (aM aL rfl m_tuple boot_tuple (aj (cM ["parts", "part"] (aC cQ) ["part", "each"] [some 1,none] rfl rfl rfl (fO (pv 0)) rfl (by decide +kernel) (by decide +kernel) (by decide +kernel) (by decide +kernel) (hg:=fun cl C s H ex pn E=>(aO (i:=1) (by decide +kernel:(["part", "each"]:List Str).Nodup) rfl (Or.inl rfl))) (ht:=fun cl C s H ex pn E=>cD) (he:=fun cl C s H ex pn E=>(nY (aZ iT (aY (nR (K:=K) rfl) (pv 1) aA (fun _ _=>rfl)) (aY (nR (K:=K) rfl) (pv 0) aA (fun _ _=>rfl)) (bF _)) (pv 0) (pv 1)))) ao)))),?_⟩
 have hul:=hd.len
 rw [List.length_map] at hul
 refine ⟨_,rfl,p,rfl,⟨_,SqT.of hp⟩,fun lc hlc=>?_⟩
 refine gJ (J:=Itt K p) (l:=lc) us.length (fun i σ' H'=>∃ (v:Option V) (ws:List V),σ'=[some t,v]∧Same H H'∧H' lc=some (.lst ws)∧ws.length≤i∧bI H' ws ((mH (L.take i) q).map bw)) ⟨none,[],rfl,aq hlc _,ak,Nat.le_refl _,trivial⟩ ?_ ?_
 ·rintro σ' H' ⟨v,ws,rfl,s1,e1,hwl,d1⟩
  rw [hul,List.take_length] at d1
  refine ⟨⟨_,SqT.of (s1 _ _ hp),Nat.le_refl _⟩,lc,_,rfl,.inl ⟨SqL.of e1,fun q hq=>?_⟩⟩
  exact k q ws _ (s1.trans (aq hq _)) ak (d1.same (aq hq _))
 ·rintro i σ' H' hi ⟨v,ws,rfl,s1,e1,hwl,d1⟩
  have hil:i < L.length:=by omega
  refine ⟨⟨_,_,SqT.of (s1 _ _ hp),cG hi⟩,?_⟩
  rintro N hN y H'' ⟨rfl,hy⟩
  have ey:y=us[i]:=Option.some.inj ((hy _ (SqT.of (s1 _ _ hp))).symm.trans (cG hi))
  have dy:Den H us[i] (bw L[i]):=at_of hd (cG hi) (by rw [List.getElem?_map,cG hil]; rfl)
  have htk:=take_one (cG hil)
  rw [← ey] at dy
  generalize L[i]=r at dy htk
  obtain ⟨b,pm,rfl,hb,hpm⟩:=fH (dy.same s1)
  have ht1:=ht.same s1
  have ht0:=ht1
  obtain ⟨b2,pm2,et,hb2,hpm2⟩:=fH ht1
  rw [et] at hN ht0 ⊢
  have htk':(mH (L.take (i+1)) q).map bw=(mH (L.take i) q).map bw++[bw (if r.1=q.1 then q else r)]:=by
   rw [htk]
   unfold mH
   rw [List.map_append,List.map_append]
   rfl
  refine gN (xR (oX ⟨_,rfl,b,_,_,_,rfl,rfl,SqT.of hb,bx _ _,_,rfl,b2,_,_,_,rfl,rfl,SqT.of hb2,bx _ _,rfl,_,rfl,?_⟩))
  refine gR (fun z=>?_) (fun z=>?_)
  ·have hq:r.1=q.1:=by rw [Qd] at z; exact of_decide_eq_true z
   refine ⟨_,rfl,ws,e1,aJ (by omega),hN _ _ ⟨_,ws++[.ref b2],rfl,cX s1 hlc,ak,by rw [List.length_append,List.length_singleton]; omega,?_⟩⟩
   rw [htk',if_pos hq]
   exact dG (d1.keepT (iW e1)) ⟨ht0.keepT (iW e1),trivial⟩
  ·have hq:¬ r.1=q.1:=fun e=>z (by rw [Qd]; exact decide_eq_true e)
   refine ⟨_,rfl,ws,e1,aJ (by omega),hN _ _ ⟨_,ws++[.ref b],rfl,cX s1 hlc,ak,by rw [List.length_append,List.length_singleton]; omega,?_⟩⟩
   rw [htk',if_neg hq]
   exact dG (d1.keepT (iW e1)) ⟨(dy.same s1).keepT (iW e1),trivial⟩
theorem mj:aQ ["book", "name", "text", "t", "side", "part"] ["book", "name", "text", "t"] (aC j4):=⟨rfl,rfl,rfl,by decide +kernel,rfl,by decide +kernel,by decide +kernel⟩
theorem Bc (h:Has K mg "changed" j4 ["book", "name", "text", "t"]) (C_side_of:jP P w K mg base "side_of" 2 ["book", "name"] (vq K a_NoPart)) (C_with_one:Cal P w K mg base "with_one" 1 ["row", "thing"] qy) (C_moments_of:jP P w K mg base "moments_of" 2 ["book", "name"] (lY K a_NoPart)) (C_replaced:Cal P w K mg base "replaced" 1 ["row", "place", "thing"] ni) (C_parts_changed:Cal P w K mg base "parts_changed" 1 ["parts", "part"] J9):jP P w K mg base "changed" 3 ["book", "name", "text", "t"] (lu a_NoPart):=by
 refine h.mk1 mj (fun vs H Q E hs=>?_) (fun f cdv A outer s H vs Q E hr hs=>?_)
 ·obtain ⟨v,L,R,ks,al,x,tx,t,rfl,_⟩:=hs
  rfl
 obtain ⟨v,L,R,ks,al,x,tx,t,rfl,hv,hx,⟨h1,h2,hmo⟩,k1,k2⟩:=hs
 refine ⟨_,(au (aH (i:=4) mj.nd rfl (Or.inl rfl) (fM C_side_of hr (by decide) rfl fj (aj (pv 0) (aj (pv 1) ao))))
  (au (aH (i:=5) mj.nd rfl (Or.inl rfl) (cB (aj (pv 1) (aj (pv 2) (aj (aK C_with_one hr (by decide) rfl (aj (fM C_moments_of hr (by decide) rfl fj (aj (pv 0) (aj (pv 1) ao))) (aj (pv 3) ao))) ao)))))
  (aD (aV (aK C_replaced hr (by decide) rfl (aj (pv 0) (aj (pv 4) (aj (aK C_parts_changed hr (by decide) rfl (aj (aY bC (pv 0) (pv 4) (fun _ _=>rfl)) (aj (pv 5) ao))) ao)))))))),?_⟩
 refine ⟨_,rfl,_,rfl,v,L,R,ks,al,x,rfl,pZ.of hv,h1,h2,hx,fun p hp=>Nat.le_trans (hmo p hp).1 (by decide),fun p0 hp0 H1 s1=>?_,fun z=>(k2 z).out⟩
 have hsi:((if (bK L x).isSome=true then (0:Int) else 1))=((jM L x:Nat):Int):=by unfold jM; split <;> rfl
 have hn:=Gd L x
 have hm0:=hmo p0 (List.mem_of_find?_eq_some hp0)
 have hk1:=k1 p0 hp0
 unfold jE at hk1
 obtain ⟨n,hsn⟩:∃ n,jM L x=n:=⟨_,rfl⟩
 have hsn':jM L (x,tx,gw p0.2.2 t).1=n:=hsn
 rw [hsn'] at hk1
 rw [hsn] at hn
 rw [hsi,hsn]
 refine ⟨_,rfl,_,rfl,_,rfl,_,rfl,v,L,R,ks,al,x,rfl,pZ.of (hv.same s1),h1,h2,hx,fun p hp u H2 s2 d2=>?_,fun z=>absurd hp0 (by rw [z]; simp)⟩
 have ep:p=p0:=Option.some.inj (hp.symm.trans hp0)
 rw [ep] at d2
 obtain ⟨pm,ms,rfl,hpm,hms⟩:=aN d2
 rw [KD hms] at hpm
 refine ⟨_,rfl,pm,_,t,rfl,hpm,hm0.2,hm0.1,fun q3 H3 s3 e3=>⟨smn 3,fun p4 hp4=>?_⟩⟩
 have s4:=aq hp4 (.tup [mkT x,mkT tx,.ref q3])
 have e4:(upd H3 p4 (.tup [mkT x,mkT tx,.ref q3])) p4=some (.tup [mkT x,mkT tx,.ref q3]):=ak
 have e43:=s4 _ _ e3
 generalize upd H3 p4 (.tup [mkT x,mkT tx,.ref q3])=H4 at s4 e4 e43 ⊢
 have s04:=((s1.trans s2).trans s3).trans s4
 obtain ⟨p,pl,pr,pk,pa,ls,rs,us,rfl,a1,a2,a3,a4,a5,a6,a7,a8⟩:=pD (hv.same s04)
 obtain ⟨pp,us',hat,hpp,dpp⟩:=CW (pk:=pk) (pa:=pa) hn a2 a3 a4 a5
 have hls:(sdP n L R).length≤900:=by unfold sdP; split <;> omega
 refine ⟨_,rfl,_,rfl,_,rfl,_,rfl,p,_,_,_,rfl,rfl,SqT.of a1,hat,_,rfl,pp,us',sdP n L R,.ref p4,(x,tx,gw p0.2.2 t),rfl,hpp,dpp,hls,⟨p4,_,rfl,e4,rfl,rfl,⟨q3,_,rfl,e43,fG _ _⟩,trivial⟩,fun r ws H5 s5 e5 d5=>?_⟩
 refine ⟨p,_,n,.ref r,rfl,s5 _ _ a1,by show n < 4; omega,by show 4≤900; omega,fun q H6 s6 e6=>?_⟩
 have s56:=s5.trans s6
 exact hk1 (.ref q) H6 (s04.trans s56) (Et hn e6 (s6 _ _ e5) (d5.same s6) (s56 _ _ a2) (a3.same s56) (s56 _ _ a4) (a5.same s56) (s56 _ _ a6) (a7.same s56) (s56 _ _ a8))
theorem qe:aQ ["book", "deed"] ["book", "deed"] (aC eX):=⟨rfl,rfl,rfl,by decide +kernel,rfl,by decide +kernel,by decide +kernel⟩
theorem pU (h:Has K mg "change_done" eX ["book", "deed"]) (C_changed:jP P w K mg base "changed" 3 ["book", "name", "text", "t"] (lu a_NoPart)):jP P w K mg base "change_done" 4 ["book", "deed"] (mQ (c3 a_NoPart a_NoPlace a_Twice)):=by
 refine h.mk1 qe (fun vs H Q E hs=>?_) (fun f cdv A outer s H vs Q E hr hs=>?_)
 ·obtain ⟨v,pd,t,x,tx,L,R,ks,al,rfl,_⟩:=hs
  rfl
 obtain ⟨v,pd,t,x,tx,L,R,ks,al,rfl,hv,hd,hx,hs,k1,k2⟩:=hs
 refine ⟨_,(aD (aV (fM C_changed hr (by decide) rfl fj (aj (pv 0) (aj (aY bC (pv 1) aA (fun _ _=>rfl)) (aj (aY bC (pv 1) aA (fun _ _=>rfl)) (aj (aY bC (pv 1) aA (fun _ _=>rfl)) ao))))))),?_⟩
 have at_:∀ {j:Nat} {y:V},[V.str yL,.int t,mkT x,mkT tx][j]?=some y→atI [V.str yL,.int t,mkT x,mkT tx] (j:Nat)=some y:=fun h=>aW h
 refine ⟨_,rfl,_,rfl,pd,_,_,_,rfl,rfl,SqT.of hd,at_ (j:=2) rfl,_,rfl,pd,_,_,_,rfl,rfl,SqT.of hd,at_ (j:=3) rfl,_,rfl,pd,_,_,_,rfl,rfl,SqT.of hd,at_ (j:=1) rfl,?_⟩
 exact ⟨v,L,R,ks,al,x,tx,t,rfl,hv,hx,hs,k1,fun z=>(k2 z).out⟩
end
open M22 in
def yW:Sp:=fun vs H Q _=>∃ (cs wd:List Nat) (n:Nat) (p:Nat × Nat),vs=[mkT cs,.int (n:Nat),mkT wd]∧cs.length≤5000∧wd.length≤1000∧(spans cs)[n]?=some p∧∀ H',Same H H'→Q (mkT (cs.take p.1++wd++cs.drop p.2)) H'
def wA:Str:=Str.ofString "word"
def vh (cs:List Nat) (n:Nat) (wd:List Nat):Option (List Nat):=((M22.spans cs)[n]?).map fun p=>cs.take p.1++wd++cs.drop p.2
def nF (C:Nat→Addr):Sp:=fun vs H Q E=>∃ (v:V) (pd:Addr) (t:Int) (x:List Nat) (n:Nat) (wd:List Nat) (L R:List Prt) (ks:List Lnk) (al:Nms),vs=[v,.ref pd]∧Den H v (cU L R ks al)∧H pd=some (.tup [.str wA,.int t,mkT x,.int (n:Nat),mkT wd])∧x.length≤1000∧wd.length≤1000∧n≤10000∧SmB L R∧(∀ p∈L++R,p.2.1.length≤5000) ∧
 (∀ (q:Prt) (tx:List Nat),bK (L++R) x=some q→vh q.2.1 n wd=some tx→∀ (u:V) (H':Hp),Same H H'→Den H' u (cU (jE L R (x,tx,gw q.2.2 t)).1 (jE L R (x,tx,gw q.2.2 t)).2 ks al)→Q u H')∧(bK (L++R) x=none→cJ (C 0) H E)∧(∀ q,bK (L++R) x=some q→vh q.2.1 n wd=none→cJ (C 1) H E)
theorem ji (a b:List Nat):(⟨a.toArray⟩:Str)++(⟨b.toArray⟩:Str)=⟨(a++b).toArray⟩:=by
 show Str.mk (a.toArray++b.toArray)=_
 simp
def iJ:List (Str × Str):=[(Str.ofString "put",Str.ofString "put_done"),(Str.ofString "take",Str.ofString "take_done"),(Str.ofString "part",Str.ofString "part_done"),(Str.ofString "join",Str.ofString "join_done"),(Str.ofString "move",Str.ofString "move_done"),(Str.ofString "change",Str.ofString "change_done"),(Str.ofString "word",Str.ofString "word_done"),(Str.ofString "link",Str.ofString "link_done"),(Str.ofString "loose",Str.ofString "loose_done"),(Str.ofString "step",Str.ofString "step_done"),(Str.ofString "alone",Str.ofString "alone_done"),(Str.ofString "lack",Str.ofString "lack_done")]
def nA (C:Nat→Addr):Sp:=fun vs H Q E=>mQ C vs H Q E∨nF C vs H Q E
theorem Ds {C:Nat→Addr} {vs:List V} {H:Hp} {Q:VK} {E:XK} (h:mQ C vs H Q E):mQ C vs H Q (K4 E):=by
 obtain ⟨v,pd,t,x,tx,L,R,ks,al,e,hv,hd,hx,hs,k1,k2⟩:=h
 exact ⟨v,pd,t,x,tx,L,R,ks,al,e,hv,hd,hx,hs,k1,fun z=>(k2 z).out⟩
theorem Gf {C:Nat→Addr} {vs:List V} {H:Hp} {Q:VK} {E:XK} (h:nF C vs H Q E):nF C vs H Q (K4 E):=by
 obtain ⟨v,pd,t,x,n,wd,L,R,ks,al,e,hv,hd,hx,hw,hn,hs,ht,k1,k2,k3⟩:=h
 exact ⟨v,pd,t,x,n,wd,L,R,ks,al,e,hv,hd,hx,hw,hn,hs,ht,k1,fun z=>(k2 z).out,fun q h1 h2=>(k3 q h1 h2).out⟩
theorem xW {C:Nat→Addr} {vs:List V} {H:Hp} {Q:VK} {E:XK} (h:nA C vs H Q E):∃ (v:V) (pd:Addr) (k nm:Str) (ys:List V),vs=[v,.ref pd]∧H pd=some (.tup (.str k :: ys))∧KTD.datumAt k iJ=some nm∧(nm=Str.ofString "change_done"∧mQ C vs H Q E∨nm=Str.ofString "word_done"∧nF C vs H Q E):=by
 rcases h with h | h
 ·have h0:=h
  obtain ⟨v,pd,t,x,tx,L,R,ks,al,e,hv,hd,_⟩:=h
  exact ⟨v,pd,yL,_,_,e,hd,by decide +kernel,.inl ⟨rfl,h0⟩⟩
 ·have h0:=h
  obtain ⟨v,pd,t,x,n,wd,L,R,ks,al,e,hv,hd,_⟩:=h
  exact ⟨v,pd,wA,_,_,e,hd,by decide +kernel,.inr ⟨rfl,h0⟩⟩
theorem Ko {n:Nat} (h:n≤10000):(((n:Nat):Int)).natAbs.log2 < 1920:=by
 show n.log2 < 1920
 by_cases h0:n=0
 ·subst h0; decide
 ·exact (Nat.log2_lt h0).mpr (Nat.lt_of_le_of_lt h (Nat.lt_of_lt_of_le (show 10000 < 2 ^ 14 by decide) (Nat.pow_le_pow_right (by decide) (by decide))))
theorem KQ {x:List Nat} {n:Nat} (hx:x.length≤1000) (h:n≤10000):(((Str.empty++(⟨x.toArray⟩:Str))++Str.ofString " has no word ")++Str.ofString (toString ((n:Nat):Int))).length≤sizeLine:=by
 rw [strLen_append,strLen_append,strLen_append]
 have h1:=lQ x
 have h2:=NT
 have h3:(Str.ofString " has no word ").length≤100:=by decide +kernel
 have h4:(Str.ofString (toString ((n:Nat):Int))).length≤6:=by
  have:=int_text_length_le10 (a:=((n:Nat):Int)) (k:=5) (by decide) (by show n < 10 ^ 5; omega)
  rw [PySem.ofString_length]
  exact this
 exact eV (by omega)
section
variable {P:Program} {w:World} {K:PySem.W.Frag} {mg:Str→Option Value} {base:Heap} {a_NoPart a_NoPlace a_Twice:Addr}
open M22
theorem dH:aQ ["text", "k", "word", "begin", "end", "each"] ["text", "k", "word"] (aC iU):=⟨rfl,rfl,rfl,by decide +kernel,rfl,by decide +kernel,by decide +kernel⟩
theorem tH (h:Has K mg "with_word" iU ["text", "k", "word"]) (C_words:Cal P w K mg base "words_of" 2 ["text"] oM) (m_len:mg "len" = none):Cal P w K mg base "with_word" 3 ["text", "k", "word"] yW:=by
 refine h.mk' dH (fun vs H Q E hs=>?_) (fun f cdv A outer s H vs Q E hr hs=>?_)
 ·obtain ⟨cs,wd,n,p,rfl,_⟩:=hs
  rfl
 obtain ⟨cs,wd,n,p,rfl,hc,hw,hp,k⟩:=hs
 refine ⟨_,(au (aH (i:=3) dH.nd rfl (Or.inl rfl) aA)
  (au (aH (i:=4) dH.nd rfl (Or.inl rfl) aA)
  (au (dB PassesOwn.never rfl (fO (cC nU (aK C_words hr (by decide) rfl (aj (pv 0) ao)) dh (dg (aX dj (pv 1) aA)))) (aO (i:=5) dH.nd rfl (Or.inl rfl))
   (au (aH (i:=3) dH.nd rfl (Or.inl rfl) (gB PySem.F.plainAttrs_str PySem.F.slot_str_find PySem.F.type_str_find Fo (pv 0) (aj (pv 5) (aj (pv 4) ao))))
  (aD (aH (i:=4) dH.nd rfl (Or.inl rfl) (aX dj (pv 3) (aP fZ rfl m_len PySem.boot_len (aj (pv 5) ao)))))))
  (aD (aV (aX bM (aX bM (cC lC (pv 0) dh (dg (pv 3))) (pv 2)) (cC lC (pv 0) (dg (pv 4)) dh))))))),?_⟩
 refine gN (gN ?_)
 refine ⟨_,rfl,⟨cs.toArray⟩,rfl,by rw [lQ]; exact hc,fun t H1 s1 e1=>?_⟩
 refine ⟨_,rfl,_,_,rfl,rfl,_,rfl,t,_,rfl,e1,fun p1 H2 s2 e2=>?_⟩
 have ew:((M01.wds cs).map fun r=>(⟨r.toArray⟩:Str)).map V.str=(spans cs).map fun q=>mkT (wordAt cs q):=by
  rw [← kZ,List.map_map,List.map_map]
  rfl
 have hnl:n < (spans cs).length:=(List.getElem?_eq_some_iff.mp hp).1
 have e2':H2 p1=some (.tup (((spans cs).map fun q=>mkT (wordAt cs q)).take (n+1))):=by
  have e:rM ((spans cs).map fun q=>mkT (wordAt cs q)) none (some (((n:Nat):Int)+1))=((spans cs).map fun q=>mkT (wordAt cs q)).take (n+1):=Od (r:=n+1) (by rw [List.length_map]; omega)
  rw [← e,← ew]
  exact e2
 have hch:=rE cs
 refine ⟨p1,rfl,⟨_,SqT.of e2'⟩,?_⟩
 refine jA (K:=K) (a:=p1) (xs:=((spans cs).map fun q=>mkT (wordAt cs q)).take (n+1)) (fun j σ H'=>∃ (v5:Option V) (b e:Nat),σ=[some (mkT cs),some (.int (n:Nat)),some (mkT wd),some (.int (b:Nat)),some (.int (e:Nat)),v5]∧Same H H'∧H' p1=some (.tup (((spans cs).map fun q=>mkT (wordAt cs q)).take (n+1)))∧e=jN ((spans cs).take j)∧∀ q,(spans cs)[j - 1]?=some q→0 < j→b=q.1) ⟨none,0,0,rfl,s1.trans s2,e2',rfl,fun q _ h=>absurd h (by decide)⟩ ?_ ?_ ?_
 ·rintro j σ H' _ ⟨_,_,_,_,_,e4,_⟩
  exact SqT.of e4
 ·rintro j y σ H3 hj ⟨v5,b,e,rfl,s3,e3,he,hb⟩
  have hjn:j < n+1:=by
   have:=(List.getElem?_eq_some_iff.mp hj).1
   rw [List.length_take] at this
   omega
  have hjl:j < (spans cs).length:=by omega
  rw [List.getElem?_take_of_lt hjn,List.getElem?_map,cG hjl] at hj
  have ey:mkT (wordAt cs (spans cs)[j])=y:=Option.some.inj hj
  have hg:=hch j _ (cG hjl)
  have hnx:jN ((spans cs).take (j+1))=(spans cs)[j].2:=by rw [take_one (cG hjl),jt]
  have hnb:(spans cs)[j+1 - 1]?=some (spans cs)[j]:=cG hjl
  rw [← he] at hg
  generalize (spans cs)[j]=q at ey hg hnx hnb
  subst ey
  obtain ⟨f1,f2⟩:=sS hg
  obtain ⟨g1,g2,g3,g4,g5⟩:=hg
  have hq12:q.1≤q.2:=by rw [g2]; exact Nat.le_add_right _ _
  have hwl:(wordAt cs q).length=q.2 - q.1:=by
   unfold wordAt
   rw [List.length_take,List.length_drop]
   omega
  refine gN ?_
  refine ⟨_,rfl,rfl,_,rfl,_,rfl,⟨cs.toArray⟩,⟨(wordAt cs q).toArray⟩,e,q.1,rfl,rfl,g1,(by rw [lQ]; omega),f1,f2,?_⟩
  refine gN ⟨_,rfl,_,rfl,_,rfl,(by rw [lQ]; exact eV (by omega)),_,_,rfl,rfl,?_⟩
  have hV:V.int (((q.1:Nat):Int)+(((⟨(wordAt cs q).toArray⟩:Str).length:Nat):Int))=V.int ((q.2:Nat):Int):=by
   rw [lQ,hwl]
   congr 1
   omega
  refine gN ⟨some (mkT (wordAt cs q)),q.1,q.2,?_,s3,e3,hnx.symm,fun r hr _=>by rw [Option.some.inj (hr.symm.trans hnb)]⟩
  rw [← hV]
  rfl
 ·rintro σ H3 ⟨v5,b,e,rfl,s3,e3,he,hb⟩
  rw [List.length_take,List.length_map,Nat.min_eq_left (by omega)] at he hb
  have hb1:=hb p hp (by omega)
  rw [take_one hp,jt] at he
  subst hb1
  subst he
  have hz:(⟨cs.toArray⟩:Str).length≤sizeLine:=by rw [lQ]; exact eV (by omega)
  refine ⟨_,rfl,_,rfl,_,rfl,⟨cs.toArray⟩,rfl,hz,_,rfl,_,_,rfl,rfl,?_,_,rfl,_,rfl,_,rfl,⟨cs.toArray⟩,rfl,hz,_,_,rfl,rfl,?_,?_⟩
  ·rw [gO,lQ,lQ,List.length_take]; exact eV (by omega)
  ·rw [gO,jT,ji,lQ,lQ,List.length_append,List.length_take,List.length_drop]; exact Nat.le_trans (show _≤1000000 by omega) bJ
  ·rw [gO,jT,ji,ji]
   exact k H3 s3
theorem gM:aQ ["book", "deed", "name", "k", "text"] ["book", "deed"] (aC iQ):=⟨rfl,rfl,rfl,by decide +kernel,rfl,by decide +kernel,by decide +kernel⟩
theorem sO (h:Has K mg "word_done" iQ ["book", "deed"]) (q_NoPlace:mg "NoPlace" = some (.ref a_NoPlace)) (x_NoPlace:PySem.W.excIn K a_NoPlace vBm "ValueError.__new__" = true) (C_text_of:jP P w K mg base "text_of" 2 ["book", "name"] (uF K a_NoPart)) (C_words:Cal P w K mg base "words_of" 2 ["text"] oM) (C_changed:jP P w K mg base "changed" 3 ["book", "name", "text", "t"] (lu a_NoPart)) (C_with_word:Cal P w K mg base "with_word" 3 ["text", "k", "word"] yW) (m_len:mg "len" = none):jP P w K mg base "word_done" 4 ["book", "deed"] (nF (c3 a_NoPart a_NoPlace a_Twice)):=by
 refine h.mk1 gM (fun vs H Q E hs=>?_) (fun f cdv A outer s H vs Q E hr hs=>?_)
 ·obtain ⟨v,pd,t,x,n,wd,L,R,ks,al,rfl,_⟩:=hs
  rfl
 obtain ⟨v,pd,t,x,n,wd,L,R,ks,al,rfl,hv,hd,hx,hw,hn,hs,ht,k1,k2,k3⟩:=hs
 refine ⟨_,(au (aH (i:=2) gM.nd rfl (Or.inl rfl) (aY bC (pv 1) aA (fun _ _=>rfl)))
  (au (aH (i:=3) gM.nd rfl (Or.inl rfl) (aY bC (pv 1) aA (fun _ _=>rfl)))
  (au (aH (i:=4) gM.nd rfl (Or.inl rfl) (fM C_text_of hr (by decide) rfl fj (aj (pv 0) (aj (pv 2) ao))))
  (au (dJ (aZ IV (pv 3) (aP cH rfl m_len PySem.boot_len (aj (aK C_words hr (by decide) rfl (aj (pv 4) ao)) ao)) (bF _))
   (aD (vU rfl zB rfl q_NoPlace x_NoPlace (aj (zm (lJ (yS (pv 2)) (lJ aG (lJ (yS (pv 3)) Gq)))) ao)))
   bH)
  (aD (aV (fM C_changed hr (by decide) rfl fj (aj (pv 0) (aj (pv 2) (aj (aK C_with_word hr (by decide) rfl (aj (pv 4) (aj (pv 3) (aj (aY bC (pv 1) aA (fun _ _=>rfl)) ao)))) (aj (aY bC (pv 1) aA (fun _ _=>rfl)) ao))))))))))),?_⟩
 have at_:∀ {j:Nat} {y:V},[V.str wA,.int t,mkT x,.int (n:Nat),mkT wd][j]?=some y→atI [V.str wA,.int t,mkT x,.int (n:Nat),mkT wd] (j:Nat)=some y:=fun h=>aW h
 refine ⟨_,rfl,pd,_,_,_,rfl,rfl,SqT.of hd,at_ (j:=2) rfl,?_⟩
 refine ⟨_,rfl,pd,_,_,_,rfl,rfl,SqT.of hd,at_ (j:=3) rfl,?_⟩
 refine ⟨_,rfl,_,rfl,v,L,R,ks,al,x,rfl,pZ.of hv,hs.1,hs.2.1,hx,fun p0 hp0 H1 s1=>?_,fun z=>(k2 z).out⟩
 have htl:=ht p0 (List.mem_of_find?_eq_some hp0)
 refine gN ?_
 refine ⟨_,rfl,_,rfl,⟨p0.2.1.toArray⟩,rfl,(by rw [lQ]; exact htl),fun t2 H2 s2 e2=>?_⟩
 have ewl:(((M01.wds (⟨p0.2.1.toArray⟩:Str).cps.toList).map fun r=>(⟨r.toArray⟩:Str)).map V.str).length=(spans p0.2.1).length:=by
  rw [List.length_map,List.length_map,Bj]
 refine ⟨t2,_,rfl,.inr (SqT.of e2),?_⟩
 rw [ewl]
 refine ⟨_,_,rfl,rfl,_,rfl,?_⟩
 refine gR (fun z=>?_) (fun z=>?_)
 ·have hge:(spans p0.2.1).length≤n:=by
   have:=of_decide_eq_true z
   omega
  have hno:vh p0.2.1 n wd=none:=by
   unfold vh
   rw [List.getElem?_eq_none hge]
   rfl
  have hx1:(⟨x.toArray⟩:Str).length≤sizeLine:=by rw [lQ]; exact eV (by omega)
  have hx2:(Str.empty++(⟨x.toArray⟩:Str)).length≤sizeLine:=by
   rw [strLen_append]
   have h1:=lQ x
   have h2:=NT
   exact eV (by omega)
  have hx3:((Str.empty++(⟨x.toArray⟩:Str))++Str.ofString " has no word ").length≤sizeLine:=Lr hx (by decide +kernel)
  have hx4:=KQ (n:=n) hx hn
  refine ⟨_,rfl,.inl ⟨_,rfl,hx1,_,rfl,hx2,_,rfl,hx3,_,rfl,.inr ⟨(n:Nat),rfl,Ko hn,_,rfl,hx4,hx4,?_⟩⟩⟩
  exact ⟨smn 1,fun e T he hT=>((k3 p0 hp0 hno).up (s1.trans s2)).made he hT⟩
 ·have hlt:n < (spans p0.2.1).length:=by
   refine Classical.byContradiction fun c=>z (decide_eq_true ?_)
   omega
  have hsp:(spans p0.2.1)[n]?=some (spans p0.2.1)[n]:=cG hlt
  have htx:vh p0.2.1 n wd=some (p0.2.1.take (spans p0.2.1)[n].1++wd++p0.2.1.drop (spans p0.2.1)[n].2):=by
   unfold vh
   rw [hsp]
   rfl
  generalize (spans p0.2.1)[n]=sp at hsp htx
  have hd2:=(s1.trans s2) _ _ hd
  refine ⟨_,rfl,_,rfl,_,rfl,_,rfl,_,rfl,pd,_,_,_,rfl,rfl,SqT.of hd2,at_ (j:=4) rfl,p0.2.1,wd,n,sp,rfl,htl,hw,hsp,fun H3 s3=>?_⟩
  have s03:=(s1.trans s2).trans s3
  refine ⟨_,rfl,pd,_,_,_,rfl,rfl,SqT.of (s3 _ _ hd2),at_ (j:=1) rfl,v,L,R,ks,al,x,_,t,rfl,hv.same s03,hx,hs,fun q hq u H' s' d=>?_,fun z=>absurd hp0 (by rw [z]; simp)⟩
  exact k1 q _ hq (by rw [Option.some.inj (hq.symm.trans hp0)]; exact htx) u H' (s03.trans s') d
theorem Gh:aQ ["book", "deed", "doer"] ["book", "deed"] (aC Fl):=⟨rfl,rfl,rfl,by decide +kernel,rfl,by decide +kernel,by decide +kernel⟩
theorem Kz (h:Has K mg "done" Fl ["book", "deed"]) {t_DOERS:Addr} (q_DOERS:mg "DOERS" = some (.ref t_DOERS)) (kt_DOERS:KFT K t_DOERS iJ) (hMK:MgK K mg) (C_change_done:jP P w K mg base "change_done" 4 ["book", "deed"] (mQ (c3 a_NoPart a_NoPlace a_Twice))) (C_word_done:jP P w K mg base "word_done" 4 ["book", "deed"] (nF (c3 a_NoPart a_NoPlace a_Twice))):jP P w K mg base "done" 5 ["book", "deed"] (nA (c3 a_NoPart a_NoPlace a_Twice)):=by
 refine h.mk1 Gh (fun vs H Q E hs=>?_) (fun f cdv A outer s H vs Q E hr hs=>?_)
 ·obtain ⟨v,pd,k,nm,ys,rfl,_⟩:=xW hs
  rfl
 obtain ⟨v,pd,kw,nm,ys,rfl,hd,hk,hc⟩:=xW hs
 refine ⟨_,(au (aH (i:=2) Gh.nd rfl (Or.inl rfl) (Ho (d7 (v:=.ref t_DOERS) rfl q_DOERS rfl) (aY bC (pv 1) aA (fun _ _=>rfl)) (fun _ _=>rfl)))
  (aD (aV (Ah hr (pv 2) fj (aj (pv 0) (aj (pv 1) ao)))))),?_⟩
 refine ⟨_,rfl,pd,_,_,_,rfl,rfl,SqT.of hd,bx _ _,t_DOERS,iJ,kw,nm,rfl,rfl,kt_DOERS,hk,fun f' hf=>?_⟩
 have hm:=hMK _ _ hf
 rcases hc with ⟨rfl,hc⟩ | ⟨rfl,hc⟩
 ·obtain ⟨f1,q1,F1⟩:=C_change_done.fn
  rw [hm] at q1
  cases q1
  exact ⟨f',_,_,_,rfl,F1,by decide,_,rfl,_,rfl,Ds hc⟩
 ·obtain ⟨f1,q1,F1⟩:=C_word_done.fn
  rw [hm] at q1
  cases q1
  exact ⟨f',_,_,_,rfl,F1,by decide,_,rfl,_,rfl,Gf hc⟩
end
def SGN:Str:=Str.ofString "ABCDEFGHIJKLMNOPQRSTUVWXYZabcdefghijklmnopqrstuvwxyz0123456789"
theorem Hu:∀ c,c < 128→decide (c∈SGN.cps.toList)=M01.isW c:=by decide +kernel
theorem JX:∀ c∈SGN.cps.toList,c < 128:=by decide +kernel
theorem M9 (c:Nat):decide (c∈SGN.cps.toList)=M01.isW c:=by
 by_cases h:c < 128
 ·exact Hu c h
 ·rw [decide_eq_false fun z=>h (JX c z)]
  unfold M01.isW
  rw [decide_eq_false (by omega),decide_eq_false (by omega),decide_eq_false (by omega)]
  rfl
def spD (p:Nat × Nat):D:=.tup [.int (p.1:Nat),.int (p.2:Nat)]
def sG:Sp:=fun vs H Q _=>∃ (cs:List Nat),vs=[mkT cs]∧cs.length≤5000∧∀ (l:Addr) (us:List V) (H':Hp),Same H H'→H' l=some (.lst us)→bI H' us ((M22.spans cs).map spD)→Q (.ref l) H'
theorem vG (c:Nat):(!(Builtin.Str.occurrences SGN ⟨#[c]⟩ 0 SGN.length 1).isEmpty)=M01.isW c:=(StrLaws.found_one SGN c).trans (M9 c)
open M22 in
theorem CT {cs:List Nat} {i:Nat} {v4:Option V} {r:V} {H:Hp} {Q':Bool→Hp→Prop} (hz:(⟨cs.toArray⟩:Str).length≤sizeLine) (hi:i < cs.length) (q:Q' (i == 0 || !wAt cs (i - 1)) H) :
  tOr (zy (tOp rEq (qU 3) (tC (.int 0)))) (zy (tOp (fun x y H Q=>∃ i j,x=V.str i∧y=V.str j∧Q (V.bl !!(Builtin.Str.occurrences j i 0 j.length 1).isEmpty) H) (tOp Oi (qU 0) (tOp (rI0 fun i j=>.int (i - j)) (qU 3) (tC (.int 1)))) (qU 1))) [some (mkT cs),some (.str SGN),some r,some (.int (i:Nat)),v4] H Q':=by
 refine ⟨_,rfl,rfl,_,rfl,?_⟩
 cases i with
 | zero =>
  refine (oX ?_:if decide (V.int ((0:Nat):Int)=V.int 0)=true then _ else _)
  exact q
 | succ j =>
  have hne:¬ (V.int ((j+1:Nat):Int)=V.int 0):=fun z=>by
   injection z with z1
   omega
  rw [decide_eq_false hne]
  refine xQ ?_
  have hj:j < cs.length:=by omega
  have ej:((j+1:Nat):Int) - 1=(j:Int):=by omega
  have ew:wAt cs j=M01.isW cs[j]:=iw (List.getElem?_eq_getElem hj)
  refine ⟨_,rfl,_,rfl,_,_,rfl,rfl,⟨cs.toArray⟩,_,cs[j],rfl,rfl,hz,?_,_,rfl,_,_,rfl,rfl,_,rfl,?_⟩
  ·rw [ej]
   exact aW (List.getElem?_eq_getElem hj)
  ·rw [vG]
   have q':Q' (!wAt cs j) H:=q
   rw [ew] at q'
   exact q'
open M22 in
theorem zL {cs:List Nat} {e:Nat} {r v3:V} {H:Hp} {Q':Bool→Hp→Prop} (hz:(⟨cs.toArray⟩:Str).length≤sizeLine) (q:Q' (wAt cs e) H) :
  Qa (zy (tOp (rI0 fun i j=>V.bl (decide (i < j))) (qU 4) (tCB (fun xs H Q=>∃ z,xs=[V.str z]∧z.length≤sizeLine∧Q (V.int (z.length:Nat)) H) (xG (qU 0) Nt)))) (zy (tOp (fun x y H Q=>∃ i j,x=V.str i∧y=V.str j∧Q (V.bl !(Builtin.Str.occurrences j i 0 j.length 1).isEmpty) H) (tOp Oi (qU 0) (qU 4)) (qU 1))) [some (mkT cs),some (.str SGN),some r,some v3,some (.int (e:Nat))] H Q':=by
 refine ⟨_,rfl,_,rfl,⟨cs.toArray⟩,rfl,hz,_,_,rfl,rfl,_,rfl,?_⟩
 refine gR (fun z=>?_) (fun z=>?_)
 ·have hlt:e < cs.length:=by
   have:=of_decide_eq_true z
   rw [lQ] at this
   omega
  have ew:wAt cs e=M01.isW cs[e]:=iw (List.getElem?_eq_getElem hlt)
  refine ⟨_,rfl,_,rfl,⟨cs.toArray⟩,_,cs[e],rfl,rfl,hz,aW (List.getElem?_eq_getElem hlt),_,rfl,_,_,rfl,rfl,_,rfl,?_⟩
  rw [vG,← ew]
  exact q
 ·have hge:cs.length≤e:=by
   refine Classical.byContradiction fun c=>z (decide_eq_true ?_)
   rw [lQ]
   omega
  have ew:wAt cs e=false:=by
   unfold wAt
   rw [List.getElem?_eq_none hge]
  rw [ew] at q
  exact q
section
variable {P:Program} {w:World} {K:PySem.W.Frag} {mg:Str→Option Value} {base:Heap}
open M22
theorem jm:aQ ["_law_text_here", "_law_signs", "_law_spans_here", "_law_at", "_law_end"] ["_law_text_here"] (aC uw):=⟨rfl,rfl,rfl,by decide +kernel,rfl,by decide +kernel,by decide +kernel⟩
theorem Jc (h:Has K mg "_law_spans" uw ["_law_text_here"]) (m_range:mg "range" = none) (m_len:mg "len" = none):Cal P w K mg base "_law_spans" 1 ["_law_text_here"] sG:=by
 refine h.mk' jm (fun vs H Q E hs=>?_) (fun f cdv A outer s H vs Q E hr hs=>?_)
 ·obtain ⟨cs,rfl,_⟩:=hs
  rfl
 obtain ⟨cs,rfl,hc,k⟩:=hs
 refine ⟨_,(au (aH (i:=1) jm.nd rfl (Or.inl rfl) aG)
  (au (aH (i:=2) jm.nd rfl (Or.inl rfl) (bV ao))
  (au (dB PassesOwn.never rfl (cA rfl m_range (aj (aP fZ rfl m_len PySem.boot_len (aj (pv 0) ao)) ao)) (aO (i:=3) jm.nd rfl (Or.inl rfl))
   (aD (dJ (PW.pt (vA (aZ qM (aY gU (pv 0) (pv 3) (fun _ _=>rfl)) (pv 1) (by with_unfolding_all rfl)) (pI (PW.pt (CN (aZ iT (pv 3) aA (bF _)) (vd (aZ qz (aY gU (pv 0) (aX uX (pv 3) aA) (fun _ _=>rfl)) (pv 1) (by with_unfolding_all rfl))))))))
   (au (aH (i:=4) jm.nd rfl (Or.inl rfl) (pv 3))
  (au (Eo PassesOwn.never (PW.pt (vA (aZ Pk (pv 4) (aP fZ rfl m_len PySem.boot_len (aj (pv 0) ao)) (bF _)) (pI (aZ qM (aY gU (pv 0) (pv 4) (fun _ _=>rfl)) (pv 1) (by with_unfolding_all rfl)))))
   (aD (aH (i:=4) jm.nd rfl (Or.inl rfl) (aX dj (pv 4) aA))))
  (aD (dO (gB PySem.F.plainAttrs_list PySem.F.slot_list_append PySem.F.type_list_append bN (pv 2) (aj (cB (aj (pv 3) (aj (pv 4) ao))) ao))))))
   bH)))
  (aD (aV (pv 2)))))),?_⟩
 have hz:(⟨cs.toArray⟩:Str).length≤sizeLine:=by rw [lQ]; exact eV (by omega)
 have hsz:(⟨cs.toArray⟩:Str).length=cs.length:=lQ cs
 have atc:∀ (j:Nat) (c:Nat),cs[j]?=some c→atI (⟨cs.toArray⟩:Str).cps.toList (j:Int)=some c:=fun j c h=>aW h
 refine gN ⟨smn 0,fun l hl=>gN ?_⟩
 refine ⟨_,rfl,⟨cs.toArray⟩,rfl,hz,((⟨cs.toArray⟩:Str).length:Int),rfl,by omega,by omega,?_⟩
 have en:(((⟨cs.toArray⟩:Str).length:Int)).toNat=cs.length:=by omega
 rw [en]
 refine eE (lo:=0) (n:=cs.length) (fun i σ H2=>∃ (v3 v4:Option V) (us:List V),σ=[some (mkT cs),some (.str SGN),some (.ref l),v3,v4]∧Same H H2∧H2 l=some (.lst us)∧bI H2 us ((spn cs i).map spD)) ⟨none,none,[],rfl,aq hl _,ak,trivial⟩ ?_ ?_
 ·rintro i σ H2 hi ⟨v3,v4,us,rfl,s2,e2,d2⟩
  have hci:cs[i]?=some cs[i]:=List.getElem?_eq_getElem hi
  have ei:(0:Int)+(i:Int)=(i:Int):=by omega
  have hul:us.length≤i:=by
   have:=d2.len
   rw [List.length_map] at this
   have h3:=xZ cs i
   omega
  rw [ei]
  have none_:beg cs i=false→∃ (u3 u4:Option V) (us:List V),([some (mkT cs),some (.str SGN),some (.ref l),some (.int (i:Int)),v4]:L2.St)=[some (mkT cs),some (.str SGN),some (.ref l),u3,u4]∧Same H H2∧H2 l=some (.lst us)∧bI H2 us ((spn cs (i+1)).map spD):=fun h=>by
   have e:spn cs (i+1)=spn cs i:=if_neg (by rw [h]; decide)
   rw [e]
   exact ⟨_,_,us,rfl,s2,e2,d2⟩
  refine gN ?_
  have ew:wAt cs i=M01.isW cs[i]:=iw hci
  refine ⟨_,rfl,_,rfl,⟨cs.toArray⟩,_,cs[i],rfl,rfl,hz,atc i _ hci,_,rfl,_,_,rfl,rfl,_,rfl,?_⟩
  refine gR (fun hw=>?_) (fun hw=>?_)
  ·have hw1:wAt cs i=true:=by rw [ew,← vG]; exact hw
   refine CT hz hi ?_
   refine gR (fun hb=>?_) (fun hb=>?_)
   ·have hbg:beg cs i=true:=by unfold beg; rw [hw1,hb]; rfl
    have e5:spn cs (i+1)=spn cs i++[(i,j9 cs i)]:=if_pos hbg
    refine ⟨_,rfl,gN ?_⟩
    refine ⟨fun m σ H3=>∃ e:Nat,m=cs.length - e∧i≤e∧e≤cs.length∧σ=[some (mkT cs),some (.str SGN),some (.ref l),some (.int (i:Nat)),some (.int (e:Nat))]∧H3=H2∧∀ p,i≤p→p < e→wAt cs p=true,⟨cs.length - i,i,rfl,Nat.le_refl _,Nat.le_of_lt hi,rfl,rfl,fun p a b=>absurd a (by omega)⟩,?_⟩
    rintro m σ H3 ⟨e,rfl,h1,h2,rfl,rfl,hall⟩
    refine zL hz ?_
    refine gR (fun hc=>?_) (fun hc=>?_)
    ·have hlt:=J0 hc
     refine ⟨fun σ' H'=>∃ m',m' < cs.length - e∧∃ e:Nat,m'=cs.length - e∧i≤e∧e≤cs.length∧σ'=[some (mkT cs),some (.str SGN),some (.ref l),some (.int (i:Nat)),some (.int (e:Nat))]∧H'=H3∧∀ p,i≤p→p < e→wAt cs p=true,fun _ _ z=>z,?_⟩
     exact ⟨_,rfl,_,_,rfl,rfl,gN ⟨cs.length - (e+1),by omega,e+1,rfl,by omega,by omega,rfl,rfl,fun p a b=>by
      by_cases c:p < e
      ·exact hall p a c
      ·rw [show p=e by omega]; exact hc⟩⟩
    ·have he:j9 cs i=e:=Kl h1 hall (by simpa using hc)
     refine ⟨_,rfl,.inl ⟨rfl,_,SqL.of e2⟩,_,rfl,_,rfl,smn 2,fun p6 hp6=>?_⟩
     have npl:l≠p6:=aB e2 hp6
     refine ⟨l,us,_,rfl,rfl,(aF npl).trans e2,Nat.lt_of_lt_of_le (show _ < 1000000 by omega) bJ,?_⟩
     have s6:=aq hp6 (.tup [.int (i:Nat),.int (e:Nat)])
     have e6:(upd H3 p6 (.tup [.int (i:Nat),.int (e:Nat)])) p6=some (.tup [.int (i:Nat),.int (e:Nat)]):=ak
     generalize upd H3 p6 (.tup [.int (i:Nat),.int (e:Nat)])=H6 at s6 e6 ⊢
     have e6l:=s6 _ _ e2
     refine ⟨_,_,us++[.ref p6],rfl,cX (s2.trans s6) hl,ak,?_⟩
     rw [e5,he,List.map_append]
     have dp:Den H6 (.ref p6) (spD (i,e)):=⟨p6,_,rfl,e6,rfl,rfl,trivial⟩
     exact dG ((d2.same s6).keepT (iW e6l)) ⟨dp.keepT (iW e6l),trivial⟩
   ·refine none_ ?_
    unfold beg
    rw [hw1]
    simpa using hb
  ·refine xQ (none_ ?_)
   unfold beg
   rw [show wAt cs i=false by rw [ew,← vG]; simpa using hw]
   rfl
 ·rintro σ H2 ⟨v3,v4,us,rfl,s2,e2,d2⟩
  refine ⟨_,rfl,?_⟩
  exact k l us H2 s2 e2 d2
end
def eN (lo:Addr) (l s m:Int):List (Key × V):=[(Sum.inr "own",.ref lo),(Sum.inr "left",.int l),(Sum.inr "seed",.int s),(Sum.inr "many",.int m)]
theorem kn1:¬ ((Sum.inr (Str.ofString "own"):Key)=Sum.inr (Str.ofString "left")):=by decide +kernel
theorem kn2:¬ ((Sum.inr (Str.ofString "own"):Key)=Sum.inr (Str.ofString "seed")):=by decide +kernel
theorem kn3:¬ ((Sum.inr (Str.ofString "own"):Key)=Sum.inr (Str.ofString "many")):=by decide +kernel
theorem kn4:¬ ((Sum.inr (Str.ofString "left"):Key)=Sum.inr (Str.ofString "seed")):=by decide +kernel
theorem kn5:¬ ((Sum.inr (Str.ofString "left"):Key)=Sum.inr (Str.ofString "many")):=by decide +kernel
theorem kn6:¬ ((Sum.inr (Str.ofString "seed"):Key)=Sum.inr (Str.ofString "many")):=by decide +kernel
theorem sn1:¬ (Str.ofString "own" = Str.ofString "left"):=by decide +kernel
theorem sm1:¬ (Str.ofString "left" = Str.ofString "own"):=by decide +kernel
theorem sn2:¬ (Str.ofString "own" = Str.ofString "seed"):=by decide +kernel
theorem sm2:¬ (Str.ofString "seed" = Str.ofString "own"):=by decide +kernel
theorem sn3:¬ (Str.ofString "own" = Str.ofString "many"):=by decide +kernel
theorem sm3:¬ (Str.ofString "many" = Str.ofString "own"):=by decide +kernel
theorem sn4:¬ (Str.ofString "left" = Str.ofString "seed"):=by decide +kernel
theorem sm4:¬ (Str.ofString "seed" = Str.ofString "left"):=by decide +kernel
theorem sn5:¬ (Str.ofString "left" = Str.ofString "many"):=by decide +kernel
theorem sm5:¬ (Str.ofString "many" = Str.ofString "left"):=by decide +kernel
theorem sn6:¬ (Str.ofString "seed" = Str.ofString "many"):=by decide +kernel
theorem sm6:¬ (Str.ofString "many" = Str.ofString "seed"):=by decide +kernel
theorem Oc (lo:Addr) (l s m:Int):d8 (eN lo l s m) (Sum.inr "own" : Key)=some (.ref lo):=bh rfl
theorem v_left (lo:Addr) (l s m:Int):d8 (eN lo l s m) (Sum.inr "left" : Key)=some (.int l):=(aR kn1).trans (bh rfl)
theorem Lp (lo:Addr) (l s m:Int):d8 (eN lo l s m) (Sum.inr "seed" : Key)=some (.int s):=(aR kn2).trans ((aR kn4).trans (bh rfl))
theorem Lz (lo:Addr) (l s m:Int):d8 (eN lo l s m) (Sum.inr "many" : Key)=some (.int m):=(aR kn3).trans ((aR kn5).trans ((aR kn6).trans (bh rfl)))
theorem Lh (lo:Addr) (l s m i:Int):putK (eN lo l s m) (Sum.inr "left" : Key) (.int i)=eN lo i s m:=by
 unfold putK eN
 simp [sn1,sm1,sn2,sm2,sn3,sm3,sn4,sm4,sn5,sm5,sn6,sm6]
theorem Lj (lo:Addr) (l s m i:Int):putK (eN lo l s m) (Sum.inr "seed" : Key) (.int i)=eN lo l i m:=by
 unfold putK eN
 simp [sn1,sm1,sn2,sm2,sn3,sm3,sn4,sm4,sn5,sm5,sn6,sm6]
theorem Ka (lo:Addr) (l s m i:Int):putK (eN lo l s m) (Sum.inr "many" : Key) (.int i)=eN lo l s i:=by
 unfold putK eN
 simp [sn1,sm1,sn2,sm2,sn3,sm3,sn4,sm4,sn5,sm5,sn6,sm6]
theorem Bd (lo:Addr) (l s m:Int):gj [] (eN lo l s m)=eN lo l s m:=by
 unfold eN
 simp [gj,putK,sn1,sm1,sn2,sm2,sn3,sm3,sn4,sm4,sn5,sm5,sn6,sm6]
def bB (d lo:Addr) (H:Hp):Prop:=∃ (cs:List Int) (l s m:Int),H d=some (.dK (eN lo l s m))∧H lo=some (.lst (cs.map V.int))∧0≤l∧∀ c∈cs,0≤c
def Old (d lo:Addr) (H H':Hp):Prop:=∀ c o,H c=some o→c≠d→c≠lo→H' c=some o
def Kh (K:PySem.W.Frag):Sp:=fun vs H Q _=>∃ (a:Addr) (ns:List Int),vs=[.ref a]∧SqL K H a (ns.map V.int)∧ns.length≤63∧∀ (d lo:Addr) (H':Hp),Same H H'→bB d lo H'→Q (.ref d) H'
def gY:Sp:=fun vs H Q _=>∃ (d lo:Addr) (m:Int),vs=[.ref d,.int m]∧bB d lo H∧0 < m∧m < 2 ^ 63∧∀ (r:Int) (H':Hp),0≤r→r < m→bB d lo H'→Old d lo H H'→Q (.int r) H'
theorem M5 {H:Hp} {d lo:Addr} {l s m:Int} (h:H d=some (.dK (eN lo l s m))):dU H d (.str "own") (some (.ref lo)):=by
 have:=dU.k (k:=(Sum.inr "own" : Key)) h
 rwa [Oc] at this
theorem gZ {H:Hp} {d lo:Addr} {l s m:Int} (h:H d=some (.dK (eN lo l s m))):dU H d (.str "left") (some (.int l)):=by
 have:=dU.k (k:=(Sum.inr "left" : Key)) h
 rwa [v_left] at this
theorem nD {H:Hp} {d lo:Addr} {l s m:Int} (h:H d=some (.dK (eN lo l s m))):dU H d (.str "seed") (some (.int s)):=by
 have:=dU.k (k:=(Sum.inr "seed" : Key)) h
 rwa [Lp] at this
theorem mZ {H:Hp} {d lo:Addr} {l s m:Int} (h:H d=some (.dK (eN lo l s m))):dU H d (.str "many") (some (.int m)):=by
 have:=dU.k (k:=(Sum.inr "many" : Key)) h
 rwa [Lz] at this
theorem vK {H:Hp} {d lo:Addr} {l s m:Int} (i:Int) (h:H d=some (.dK (eN lo l s m))):rN H d (.str "left") (.int i) (upd H d (.dK (eN lo i s m))):=by
 have:=rN.k (k:=(Sum.inr "left" : Key)) (v:=.int i) h (aJ (by show 4≤1000; decide))
 rwa [Lh] at this
theorem Ac {H:Hp} {d lo:Addr} {l s m:Int} (i:Int) (h:H d=some (.dK (eN lo l s m))):rN H d (.str "seed") (.int i) (upd H d (.dK (eN lo l i m))):=by
 have:=rN.k (k:=(Sum.inr "seed" : Key)) (v:=.int i) h (aJ (by show 4≤1000; decide))
 rwa [Lj] at this
theorem zX {H:Hp} {d lo:Addr} {l s m:Int} (i:Int) (h:H d=some (.dK (eN lo l s m))):rN H d (.str "many") (.int i) (upd H d (.dK (eN lo l s i))):=by
 have:=rN.k (k:=(Sum.inr "many" : Key)) (v:=.int i) h (aJ (by show 4≤1000; decide))
 rwa [Ka] at this
theorem Old.upd_d {d lo:Addr} {H H':Hp} {o:HO} (h:Old d lo H H'):Old d lo H (upd H' d o):=fun c o' e h1 h2=>by
 rw [aF h1]
 exact h c o' e h1 h2
theorem Old.upd_lo {d lo:Addr} {H H':Hp} {o:HO} (h:Old d lo H H'):Old d lo H (upd H' lo o):=fun c o' e h1 h2=>by
 rw [aF h2]
 exact h c o' e h1 h2
theorem Old.new {d lo b:Addr} {H H':Hp} {o:HO} (h:Old d lo H H') (hb:H' b=none):Old d lo H (upd H' b o):=fun c o' e h1 h2=>aq hb o _ _ (h c o' e h1 h2)
section
variable {P:Program} {w:World} {K:PySem.W.Frag} {mg:Str→Option Value} {base:Heap}
theorem zu:aQ ["_law_script", "_law_seed", "_law_own", "_law_cell"] ["_law_script"] (aC Np):=⟨rfl,rfl,rfl,by decide +kernel,rfl,by decide +kernel,by decide +kernel⟩
theorem Og (h:Has K mg "_law_pot" Np ["_law_script"])  : Cal P w K mg base "_law_pot" 1 ["_law_script"] (Kh K):=by
 refine h.mk' zu (fun vs H Q E hs=>?_) (fun f cdv A outer s H vs Q E hr hs=>?_)
 ·obtain ⟨a,ns,rfl,_⟩:=hs
  rfl
 obtain ⟨a,ns,rfl,hS,h63,k⟩:=hs
 refine ⟨_,(au (aH (i:=1) zu.nd rfl (Or.inl rfl) aA)
  (au (aH (i:=2) zu.nd rfl (Or.inl rfl) (bV ao))
  (au (dB PassesOwn.never rfl (jw (pv 0)) (aO (i:=3) zu.nd rfl (Or.inl rfl))
   (au (aH (i:=1) zu.nd rfl (Or.inl rfl) (aX fU (aX dj (aX dj (aX uI (pv 1) aA) (aX fU (pv 3) aA)) aA) aA))
  (aD (dJ (aZ IV (pv 3) (aX zf aA aA) (bF _))
   (aD (dO (gB PySem.F.plainAttrs_list PySem.F.slot_list_append PySem.F.type_list_append bN (pv 2) (aj (pv 3) ao))))
   bH))))
  (aD (aV (tM (eY aG (pv 2) (eY aG aA (eY aG (pv 1) (eY aG aA tZ)))) rfl rfl (by simp) (by decide +kernel))))))),?_⟩
 refine ⟨smn 0,fun lo hlo=>?_⟩
 have hloN:H lo=none:=hlo
 refine ⟨_,rfl,a,rfl,⟨_,(aq hlo (.lst [])).seq hS⟩,?_⟩
 refine jV (K:=K) (a:=a) (xs:=ns.map V.int) (fun i σ H2=>∃ (s:Int) (cs:List Int) (v3:Option V),σ=[some (.ref a),some (.int s),some (.ref lo),v3]∧H2=upd H lo (.lst (cs.map V.int))∧(∀ c∈cs,0≤c)∧cs.length≤i) ⟨11,[],none,rfl,rfl,(fun c h=>by cases h),Nat.le_refl _⟩ ?_ ?_ ?_
 ·rintro i σ H2 _ ⟨s,cs,v3,rfl,rfl,_,_⟩
  exact (aq hlo _).seq hS
 ·rintro i y σ H2 hi ⟨s,cs,v3,rfl,rfl,hc,hl⟩
  obtain ⟨c,rfl⟩:=xJ hi
  have hi63:i < 63:=by
   have:=(List.getElem?_eq_some_iff.mp hi).1
   rw [List.length_map] at this
   omega
  refine ⟨_,rfl,_,_,rfl,rfl,.inr ⟨by decide,by decide⟩,_,rfl,_,_,rfl,rfl,(by show (0:Int) < 2147483629; decide),_,_,rfl,rfl,_,_,rfl,rfl,_,_,rfl,rfl,(by show (0:Int) < 2305843009213693951; decide),?_⟩
  refine ⟨_,rfl,_,_,rfl,rfl,⟨by decide,by decide,by decide⟩,_,_,rfl,rfl,_,rfl,?_⟩
  refine gR (fun z=>?_) (fun z=>?_)
  ·have hc0:0≤c:=by
    have:=of_decide_eq_true z
    have e:(10:Int) ^ (18:Int).toNat=1000000000000000000:=by decide
    rw [e] at this
    omega
   refine ⟨_,rfl,.inl ⟨rfl,_,SqL.of ak⟩,_,rfl,lo,_,_,rfl,rfl,ak,by rw [List.length_map]; exact aJ (by omega),_,cs++[c],_,rfl,?_,?_,?_⟩
   ·rw [gG,List.map_append]
    rfl
   ·intro c' h'
    rcases List.mem_append.mp h' with z | z
    ·exact hc c' z
    ·rw [List.mem_singleton.mp z]
     exact hc0
   ·rw [List.length_append,List.length_singleton]
    omega
  ·exact ⟨_,cs,_,rfl,rfl,hc,by omega⟩
 ·rintro σ H2 ⟨s,cs,v3,rfl,rfl,hc,hl⟩
  refine fun d hd=>⟨_,rfl,_,rfl,ak,eN lo 0 s 0,rfl,(by show 4≤15; decide),?_⟩
  have ndl:lo≠d:=aB ak hd
  rw [Bd,gG]
  exact k d lo _ ((aq hlo _).trans (aq hd _)) ⟨cs,0,s,0,ak,(aF ndl).trans ak,Int.le_refl _,hc⟩
theorem zM:aQ ["_law_pot_here", "_law_many", "_law_drawn", "_law_mixed"] ["_law_pot_here", "_law_many"] (aC Fw):=⟨rfl,rfl,rfl,by decide +kernel,rfl,by decide +kernel,by decide +kernel⟩
theorem K5 (h:Has K mg "_law_next" Fw ["_law_pot_here", "_law_many"])  : Cal P w K mg base "_law_next" 1 ["_law_pot_here", "_law_many"] gY:=by
 refine h.mk' zM (fun vs H Q E hs=>?_) (fun f cdv A outer s H vs Q E hr hs=>?_)
 ·obtain ⟨d,lo,m,rfl,_⟩:=hs
  rfl
 obtain ⟨d,lo,m,rfl,⟨cs,l,sd,mn,ed,elo,hl,hcs⟩,m0,m1,k⟩:=hs
 refine ⟨_,(au (dJ (PW.pt (vA (aZ iT (bA (bL hr) (pv 0) aG (fun _ _=>rfl)) aA (bF _)) (pI (aZ (Cm hr.units0) (bA (bL hr) (pv 0) aG (fun _ _=>rfl)) (bV ao) (bF _)))))
   (aD (dZ (bL hr) (pv 0) aG (gB PySem.F.plainAttrs_list PySem.F.slot_list_pop PySem.F.type_list_pop vD (bA (bL hr) (pv 0) aG (fun _ _=>rfl)) (aj aA ao)) rfl))
   bH)
  (au (dJ (aZ Mq (bA (bL hr) (pv 0) aG (fun _ _=>rfl)) aA (bF _))
   (au (aH (i:=2) zM.nd rfl (Or.inl rfl) (aX fU (bA (bL hr) (pv 0) aG (fun _ _=>rfl)) (pv 1)))
  (au (dZ (bL hr) (pv 0) aG (aX iI (bA (bL hr) (pv 0) aG (fun _ _=>rfl)) (pv 1)) rfl)
  (aD (aV (pv 2)))))
   bH)
  (au (dZ (bL hr) (pv 0) aG (aX dj (bA (bL hr) (pv 0) aG (fun _ _=>rfl)) aA) rfl)
  (au (aH (i:=3) zM.nd rfl (Or.inl rfl) (aX fU (aX uI (aX dj (bA (bL hr) (pv 0) aG (fun _ _=>rfl)) (aX uI (bA (bL hr) (pv 0) aG (fun _ _=>rfl)) aA)) aA) aA))
  (au (dZ (bL hr) (pv 0) aG (aX fU (aX uI (pv 3) (aX dj (aX fU (pv 3) aA) aA)) aA) rfl)
  (aD (aV (aX fU (aX iI (bA (bL hr) (pv 0) aG (fun _ _=>rfl)) aA) (pv 1))))))))),?_⟩
 have ndl:d≠lo:=iC ed elo (by intro z; cases z)
 have old0:Old d lo H H:=fun c o e _ _=>e
 refine ⟨_,rfl,d,_,rfl,gZ ed,rfl,_,rfl,?_⟩
 refine gR (fun z0=>?_) (fun z0=>?_)
 ·have hl0:l=0:=by
   have:=of_decide_eq_true z0
   injection this
  subst hl0
  refine ⟨_,rfl,d,_,rfl,M5 ed,smn 0,fun b hb=>?_⟩
  have nbd:d≠b:=aB ed hb
  have nbl:lo≠b:=aB elo hb
  have s2:=aq hb (.lst [])
  refine ⟨lo,b,_,rfl,rfl,s2 _ _ elo,ak,_,rfl,?_⟩
  have ed2:=s2 _ _ ed
  have elo2:=s2 _ _ elo
  have old2:Old d lo H (upd H b (.lst [])):=Old.new old0 hb
  generalize upd H b (.lst [])=H2 at ed2 elo2 old2
  cases cs with
  | nil =>
   refine xQ ?_
   refine ⟨_,rfl,d,_,rfl,gZ ed2,_,_,rfl,rfl,_,rfl,?_⟩
   refine gR (fun z=>?_) (fun z=>?_)
   ·refine ⟨_,rfl,d,_,rfl,gZ ed2,_,rfl,_,_,rfl,rfl,m0,?_⟩
    refine ⟨_,rfl,d,_,rfl,gZ ed2,_,rfl,_,_,rfl,rfl,⟨m0,by omega⟩,_,rfl,d,_,rfl,vK _ ed2,?_⟩
    refine ⟨_,rfl,k _ _ (Int.emod_nonneg _ (by omega)) (Int.emod_lt_of_pos _ m0) ⟨[],_,sd,mn,ak,(aF ndl.symm).trans elo2,Int.ediv_nonneg (Int.le_refl 0) (by omega),hcs⟩ (Old.upd_d old2)⟩
   ·refine ⟨_,rfl,d,_,rfl,mZ ed2,_,_,rfl,rfl,_,rfl,d,_,rfl,zX _ ed2,?_⟩
    have ed2:(upd H2 d (.dK (eN lo 0 sd (mn+1)))) d=some (.dK (eN lo 0 sd (mn+1))):=ak
    refine ⟨_,rfl,d,_,rfl,nD ed2,_,rfl,d,_,rfl,mZ ed2,_,_,rfl,rfl,.inr ⟨by decide,by decide⟩,_,_,rfl,rfl,_,_,rfl,rfl,.inr ⟨by decide,by decide⟩,_,_,rfl,rfl,(by show (0:Int) < 2305843009213693951; decide),?_⟩
    have q0:0≤(sd+(mn+1) * 7919) * 48271 % 2305843009213693951:=Int.emod_nonneg _ (by decide)
    have q1:(sd+(mn+1) * 7919) * 48271 % 2305843009213693951 < 2305843009213693951:=Int.emod_lt_of_pos _ (by decide)
    refine ⟨_,rfl,_,rfl,_,_,rfl,rfl,(by show (0:Int) < 1009; decide),_,_,rfl,rfl,_,_,rfl,rfl,.inl ⟨by omega,by omega⟩,_,_,rfl,rfl,(by show (0:Int) < 2305843009213693951; decide),_,rfl,d,_,rfl,Ac _ ed2,?_⟩
    refine ⟨_,rfl,d,_,rfl,nD ak,_,_,rfl,rfl,⟨by decide,by decide⟩,_,rfl,_,_,rfl,rfl,m0,?_⟩
    exact k _ _ (Int.emod_nonneg _ (by omega)) (Int.emod_lt_of_pos _ m0) ⟨[],0,_,_,ak,(aF ndl.symm).trans ((aF ndl.symm).trans elo2),(Int.le_refl 0),hcs⟩ (Old.upd_d (Old.upd_d old2))
  | cons c cs =>
   refine oX ?_
   refine ⟨_,rfl,d,_,rfl,M5 ed2,.inl ⟨rfl,_,SqL.of elo2⟩,lo,_,0,0,.int c,rfl,rfl,elo2,by decide,by decide,by simp [seqIndex?],rfl,?_⟩
   have eloP:(upd H2 lo (.lst (((c :: cs).map V.int).eraseIdx 0))) lo=some (.lst (cs.map V.int)):=ak
   have edP:(upd H2 lo (.lst (((c :: cs).map V.int).eraseIdx 0))) d=some (.dK (eN lo 0 sd mn)):=(aF ndl).trans ed2
   have oldP:Old d lo H (upd H2 lo (.lst (((c :: cs).map V.int).eraseIdx 0))):=Old.upd_lo old2
   have hc0:0≤c:=hcs c List.mem_cons_self
   have hcs':∀ x∈cs,0≤x:=fun x hx=>hcs x (List.mem_cons_of_mem _ hx)
   refine ⟨_,rfl,d,_,rfl,vK c edP,?_⟩
   have ed3:(upd (upd H2 lo (.lst (((c :: cs).map V.int).eraseIdx 0))) d (.dK (eN lo c sd mn))) d=some (.dK (eN lo c sd mn)):=ak
   have elo3:=(aF (o:=HO.dK (eN lo c sd mn)) ndl.symm).trans eloP
   have old3:=Old.upd_d (o:=HO.dK (eN lo c sd mn)) oldP
   generalize upd (upd H2 lo (.lst (((c :: cs).map V.int).eraseIdx 0))) d (.dK (eN lo c sd mn))=H3 at ed3 elo3 old3
   refine ⟨_,rfl,d,_,rfl,gZ ed3,_,_,rfl,rfl,_,rfl,?_⟩
   refine gR (fun z=>?_) (fun z=>?_)
   ·refine ⟨_,rfl,d,_,rfl,gZ ed3,_,rfl,_,_,rfl,rfl,m0,?_⟩
    refine ⟨_,rfl,d,_,rfl,gZ ed3,_,rfl,_,_,rfl,rfl,⟨m0,by omega⟩,_,rfl,d,_,rfl,vK _ ed3,?_⟩
    refine ⟨_,rfl,k _ _ (Int.emod_nonneg _ (by omega)) (Int.emod_lt_of_pos _ m0) ⟨cs,_,sd,mn,ak,(aF ndl.symm).trans elo3,Int.ediv_nonneg hc0 (by omega),hcs'⟩ (Old.upd_d old3)⟩
   ·refine ⟨_,rfl,d,_,rfl,mZ ed3,_,_,rfl,rfl,_,rfl,d,_,rfl,zX _ ed3,?_⟩
    have ed2:(upd H3 d (.dK (eN lo c sd (mn+1)))) d=some (.dK (eN lo c sd (mn+1))):=ak
    refine ⟨_,rfl,d,_,rfl,nD ed2,_,rfl,d,_,rfl,mZ ed2,_,_,rfl,rfl,.inr ⟨by decide,by decide⟩,_,_,rfl,rfl,_,_,rfl,rfl,.inr ⟨by decide,by decide⟩,_,_,rfl,rfl,(by show (0:Int) < 2305843009213693951; decide),?_⟩
    have q0:0≤(sd+(mn+1) * 7919) * 48271 % 2305843009213693951:=Int.emod_nonneg _ (by decide)
    have q1:(sd+(mn+1) * 7919) * 48271 % 2305843009213693951 < 2305843009213693951:=Int.emod_lt_of_pos _ (by decide)
    refine ⟨_,rfl,_,rfl,_,_,rfl,rfl,(by show (0:Int) < 1009; decide),_,_,rfl,rfl,_,_,rfl,rfl,.inl ⟨by omega,by omega⟩,_,_,rfl,rfl,(by show (0:Int) < 2305843009213693951; decide),_,rfl,d,_,rfl,Ac _ ed2,?_⟩
    refine ⟨_,rfl,d,_,rfl,nD ak,_,_,rfl,rfl,⟨by decide,by decide⟩,_,rfl,_,_,rfl,rfl,m0,?_⟩
    exact k _ _ (Int.emod_nonneg _ (by omega)) (Int.emod_lt_of_pos _ m0) ⟨cs,c,_,_,ak,(aF ndl.symm).trans ((aF ndl.symm).trans elo3),hc0,hcs'⟩ (Old.upd_d (Old.upd_d old3))
 ·refine xQ ?_
  refine ⟨_,rfl,d,_,rfl,gZ ed,_,_,rfl,rfl,_,rfl,?_⟩
  refine gR (fun z=>?_) (fun z=>?_)
  ·refine ⟨_,rfl,d,_,rfl,gZ ed,_,rfl,_,_,rfl,rfl,m0,?_⟩
   refine ⟨_,rfl,d,_,rfl,gZ ed,_,rfl,_,_,rfl,rfl,⟨m0,by omega⟩,_,rfl,d,_,rfl,vK _ ed,?_⟩
   refine ⟨_,rfl,k _ _ (Int.emod_nonneg _ (by omega)) (Int.emod_lt_of_pos _ m0) ⟨cs,_,sd,mn,ak,(aF ndl.symm).trans elo,Int.ediv_nonneg hl (by omega),hcs⟩ (Old.upd_d old0)⟩
  ·refine ⟨_,rfl,d,_,rfl,mZ ed,_,_,rfl,rfl,_,rfl,d,_,rfl,zX _ ed,?_⟩
   have ed2:(upd H d (.dK (eN lo l sd (mn+1)))) d=some (.dK (eN lo l sd (mn+1))):=ak
   refine ⟨_,rfl,d,_,rfl,nD ed2,_,rfl,d,_,rfl,mZ ed2,_,_,rfl,rfl,.inr ⟨by decide,by decide⟩,_,_,rfl,rfl,_,_,rfl,rfl,.inr ⟨by decide,by decide⟩,_,_,rfl,rfl,(by show (0:Int) < 2305843009213693951; decide),?_⟩
   have q0:0≤(sd+(mn+1) * 7919) * 48271 % 2305843009213693951:=Int.emod_nonneg _ (by decide)
   have q1:(sd+(mn+1) * 7919) * 48271 % 2305843009213693951 < 2305843009213693951:=Int.emod_lt_of_pos _ (by decide)
   refine ⟨_,rfl,_,rfl,_,_,rfl,rfl,(by show (0:Int) < 1009; decide),_,_,rfl,rfl,_,_,rfl,rfl,.inl ⟨by omega,by omega⟩,_,_,rfl,rfl,(by show (0:Int) < 2305843009213693951; decide),_,rfl,d,_,rfl,Ac _ ed2,?_⟩
   refine ⟨_,rfl,d,_,rfl,nD ak,_,_,rfl,rfl,⟨by decide,by decide⟩,_,rfl,_,_,rfl,rfl,m0,?_⟩
   exact k _ _ (Int.emod_nonneg _ (by omega)) (Int.emod_lt_of_pos _ m0) ⟨cs,l,_,_,ak,(aF ndl.symm).trans ((aF ndl.symm).trans elo),hl,hcs⟩ (Old.upd_d (Old.upd_d old0))
end
section
variable {P:Program} {w:World} {K:PySem.W.Frag} {mg:Str→Option Value} {base:Heap}
theorem qex {X:Cx} {st:List Stmt} {D:Ends} {σ:L2.St} {H:Hp} (h:∃ t,QSs X st t∧t D σ H):∃ t,PSs X st t∧t D σ H:=h.elim fun t h=>⟨t,h.1.h,h.2⟩
theorem bB.same {d lo:Addr} {H H':Hp} (h:bB d lo H) (s:Same H H'):bB d lo H':=by
 obtain ⟨cs,l,sd,m,e1,e2,r⟩:=h
 exact ⟨cs,l,sd,m,s _ _ e1,s _ _ e2,r⟩
theorem bB.new {d lo b:Addr} {H:Hp} {o:HO} (h:bB d lo H) (hb:H b=none):bB d lo (upd H b o):=h.same (aq hb o)
theorem bB.ne {d lo b:Addr} {H:Hp} (h:bB d lo H) (hb:H b=none):b≠d∧b≠lo:=by
 obtain ⟨cs,l,sd,m,e1,e2,r⟩:=h
 exact ⟨(aB e1 hb).symm,(aB e2 hb).symm⟩
theorem bB.upd {d lo b:Addr} {H:Hp} {o:HO} (h:bB d lo H) (h1:b≠d) (h2:b≠lo):bB d lo (upd H b o):=by
 obtain ⟨cs,l,sd,m,e1,e2,r⟩:=h
 exact ⟨cs,l,sd,m,(aF h1.symm).trans e1,(aF h2.symm).trans e2,r⟩
theorem Old.trans {d lo:Addr} {H H1 H2:Hp} (a:Old d lo H H1) (b:Old d lo H1 H2):Old d lo H H2:=fun c o e h1 h2=>b c o (a c o e h1 h2) h1 h2
theorem Old.of {d lo:Addr} {H H1:Hp} (a:Same H H1):Old d lo H H1:=fun c o e _ _=>a c o e
theorem Old.free {d lo b:Addr} {H H1:Hp} {o:HO} (a:Old d lo H H1) (hb:H b=none):Old d lo H (L2.upd H1 b o):=fun c o' e h1 h2=>by
 rw [aF (aB e hb)]
 exact a c o' e h1 h2
theorem cP {d lo:Addr} {H H':Hp} (hp:bB d lo H) (o:Old d lo H H'):∀ (b:Addr) (vs:List V),H b=some (.tup vs)→H' b=some (.tup vs):=fun b vs e=>by
 obtain ⟨cs,l,sd,m,e1,e2,r⟩:=hp
 exact o b _ e (iC e e1 (by intro z; cases z)) (iC e e2 (by intro z; cases z))
theorem jO {σ:L2.St} {H:Hp} {i:Nat} {d lo:Addr} {m:Int} {Q:VK} (hσ:σ[i]?=some (some (.ref d))) (hp:bB d lo H) (h0:0 < m) (h1:m < 2 ^ 63) (k:∀ (r:Int) (H':Hp),0≤r→r < m→bB d lo H'→Old d lo H H'→Q (.int r) H') :
  Jb gY [] E0 (xG (qU i) (xG (tC (.int m)) Nt)) σ H Q:=⟨_,hσ,d,lo,m,rfl,hp,h0,h1,k⟩
theorem Iw {k n:Nat} (h:k < n):seqIndex? ((k:Nat):Int) n=some k:=by
 unfold seqIndex?
 simp
 omega
theorem qZ {α β:Type} (f:α→β):∀ (xs:List α) (i:Nat),(xs.map f).eraseIdx i=(xs.eraseIdx i).map f
 | [],_=>rfl
 | _ :: _,0=>rfl
 | x :: xs,i+1=>by
  show f x :: (xs.map f).eraseIdx i=f x :: (xs.eraseIdx i).map f
  rw [qZ f xs i]
theorem Kq {K:PySem.W.Frag} {H:Hp} {l:Addr} {a b r:Int} {Q:VK} (h:H l=some (.lst [.int a,.int b])) (k:∀ v:Int,v=a∨v=b→Q (.int v) H):PK K (.ref l) (.int (if decide (V.int r=V.int 0)=true then 1 else 0)) H Q:=by
 by_cases hr:decide (V.int r=V.int 0)=true
 ·rw [if_pos hr]
  exact ⟨l,_,_,.int b,rfl,rfl,SqL.of h,aW (xs:=[V.int a,V.int b]) (j:=1) rfl,k b (.inr rfl)⟩
 ·rw [if_neg hr]
  exact ⟨l,_,_,.int a,rfl,rfl,SqL.of h,bx _ _,k a (.inl rfl)⟩
theorem good_str {x y:Str} (hx:∀ c∈x.cps.toList,mq c) (hy:∀ c∈y.cps.toList,mq c):∀ c∈(x++y).cps.toList,mq c:=fun c hc=>by
 have e:(x++y).cps.toList=x.cps.toList++y.cps.toList:=by
  show (x.cps++y.cps).toList=_
  simp
 rw [e] at hc
 rcases List.mem_append.mp hc with z | z
 ·exact hx c z
 ·exact hy c z
instance (c:Nat):Decidable (mq c):=by unfold mq; infer_instance
end
def nQ:Sp:=fun vs H Q _=>∃ (d lo:Addr) (n:Int),vs=[.ref d,.int n]∧bB d lo H∧0≤n∧n≤12∧∀ (r:Int) (H':Hp),0≤r→r≤12→bB d lo H'→Old d lo H H'→Q (.int r) H'
def iY:Sp:=fun vs H Q _=>∃ (d lo:Addr) (n:Nat),vs=[.ref d,.int (n:Nat)]∧bB d lo H∧n≤13∧∀ (q:Addr) (ms:List Int) (H':Hp),H' q=some (.tup (ms.map V.int))→Ek ms→ms.length=n→bB d lo H'→Old d lo H H'→Q (.ref q) H'
def iu (d lo l:Addr) (H H':Hp):Prop:=∀ c o,H c=some o→c≠d→c≠lo→c≠l→H' c=some o
def sY:Sp:=fun vs H Q _=>∃ (d lo l:Addr) (xs:Nms),vs=[.ref d,.ref l]∧bB d lo H∧H l=some (.lst (xs.map mkT))∧l≠d∧l≠lo∧xs≠[]∧xs.length≤1000∧∀ (i:Nat) (h:i < xs.length) (H':Hp),H' l=some (.lst ((xs.eraseIdx i).map mkT))→bB d lo H'→iu d lo l H H'→Q (mkT xs[i]) H'
section
variable {P:Program} {w:World} {K:PySem.W.Frag} {mg:Str→Option Value} {base:Heap}
theorem HJ:aQ ["_law_pot_here", "_law_most"] ["_law_pot_here", "_law_most"] (aC uZ):=⟨rfl,rfl,rfl,by decide +kernel,rfl,by decide +kernel,by decide +kernel⟩
theorem Jh (h:Has K mg "_law_count" uZ ["_law_pot_here", "_law_most"]) (C_next:Cal P w K mg base "_law_next" 1 ["_law_pot_here", "_law_many"] gY) (m_int:mg "int" = none):Cal P w K mg base "_law_count" 2 ["_law_pot_here", "_law_most"] nQ:=by
 refine h.mk' HJ (fun vs H Q E hs=>?_) (fun f cdv A outer s H vs Q E hr hs=>?_)
 ·obtain ⟨d,lo,n,rfl,_⟩:=hs
  rfl
 obtain ⟨d,lo,n,rfl,hp,h0,h1,k⟩:=hs
 refine ⟨_,(aD (aV (aK C_next hr (by decide) rfl (aj (pv 0) (aj (aX dj (aY bQ (bV (aj (pv 1) (aj aA ao))) (aM lH rfl m_int boot_int (aj (rW iT (aK C_next hr (by decide) rfl (aj (pv 0) (aj aA ao))) aA (bF _)) ao)) (fun _ _=>rfl)) aA) ao))))),?_⟩
 refine ⟨_,rfl,_,rfl,smn 2,fun l2 hl2=>?_⟩
 have hp2:=hp.new (o:=HO.lst [.int n,.int 12]) hl2
 obtain ⟨n2d,n2l⟩:=hp.ne hl2
 refine jO (σ:=[some (.ref d),some (.int n)]) (i:=0) (m:=8) rfl hp2 (by decide) (by decide) fun r H2 r0 r1 p2 o2=>?_
 refine ⟨rfl,.inr ⟨_,rfl,Kq (o2 l2 _ ak n2d n2l) fun v hv=>?_⟩⟩
 have hv5:0≤v∧v≤12:=by rcases hv with rfl | rfl <;> omega
 refine ⟨_,_,rfl,rfl,d,lo,_,rfl,p2,(by show 0 < v+1; omega),(by show v+1 < _; omega),fun r3 H3 q0 q1 p3 o3=>?_⟩
 exact k r3 H3 q0 (by omega) p3 (((Old.of (aq hl2 _)).trans o2).trans o3)
theorem Ja:aQ ["_law_pot_here", "_law_names_here"] ["_law_pot_here", "_law_names_here"] (aC vZ):=⟨rfl,rfl,rfl,by decide +kernel,rfl,by decide +kernel,by decide +kernel⟩
theorem Ji (h:Has K mg "_law_taken" vZ ["_law_pot_here", "_law_names_here"]) (C_next:Cal P w K mg base "_law_next" 1 ["_law_pot_here", "_law_many"] gY) (m_len:mg "len" = none):Cal P w K mg base "_law_taken" 2 ["_law_pot_here", "_law_names_here"] sY:=by
 refine h.mk' Ja (fun vs H Q E hs=>?_) (fun f cdv A outer s H vs Q E hr hs=>?_)
 ·obtain ⟨d,lo,l,xs,rfl,_⟩:=hs
  rfl
 obtain ⟨d,lo,l,xs,rfl,hp,hl,nd,nl,hne,hlen,k⟩:=hs
 refine ⟨_,(aD (aV (gB PySem.F.plainAttrs_list PySem.F.slot_list_pop PySem.F.type_list_pop vD (pv 1) (aj (aK C_next hr (by decide) rfl (aj (pv 0) (aj (aP cH rfl m_len PySem.boot_len (aj (pv 1) ao)) ao))) ao)))),?_⟩
 have hpos:0 < xs.length:=List.length_pos_iff.mpr hne
 refine ⟨_,rfl,.inl ⟨rfl,_,SqL.of hl⟩,_,rfl,_,rfl,l,_,rfl,.inl (SqL.of hl),?_⟩
 refine ⟨d,lo,_,rfl,hp,(by rw [List.length_map]; omega),(by rw [List.length_map]; omega),fun r H2 r0 r1 p2 o2=>?_⟩
 have hl2:H2 l=some (.lst (xs.map mkT)):=o2 l _ hl nd nl
 obtain ⟨i,rfl⟩:=Int.eq_ofNat_of_zero_le r0
 have hi:i < xs.length:=by
  rw [List.length_map] at r1
  omega
 refine ⟨l,_,_,i,mkT xs[i],rfl,rfl,hl2,by omega,by omega,by rw [List.length_map]; exact Iw hi,by rw [List.getElem?_map,List.getElem?_eq_getElem hi]; rfl,?_⟩
 rw [qZ]
 exact k i hi _ ak (p2.upd nd nl) fun c o e h1 h2 h3=>(aF h3).trans (o2 c o e h1 h2)
theorem gk:aQ ["_law_pot_here", "_law_many", "_law_made", "_law_now", "_law_k"] ["_law_pot_here", "_law_many"] (aC j5):=⟨rfl,rfl,rfl,by decide +kernel,rfl,by decide +kernel,by decide +kernel⟩
theorem yw (h:Has K mg "_law_moments" j5 ["_law_pot_here", "_law_many"]) (C_next:Cal P w K mg base "_law_next" 1 ["_law_pot_here", "_law_many"] gY) (m_int:mg "int" = none) (m_range:mg "range" = none) (m_tuple:mg "tuple" = none):Cal P w K mg base "_law_moments" 2 ["_law_pot_here", "_law_many"] iY:=by
 refine h.mk' gk (fun vs H Q E hs=>?_) (fun f cdv A outer s H vs Q E hr hs=>?_)
 ·obtain ⟨d,lo,n,rfl,_⟩:=hs
  rfl
 obtain ⟨d,lo,n,rfl,hp,hn,k⟩:=hs
 refine ⟨_,(au (aH (i:=2) gk.nd rfl (Or.inl rfl) (bV ao))
  (au (aH (i:=3) gk.nd rfl (Or.inl rfl) (aY bQ (bV (aj aA (aj (aX uX (aX zf aA aA) aA) ao))) (aM lH rfl m_int boot_int (aj (rW iT (aK C_next hr (by decide) rfl (aj (pv 0) (aj aA ao))) aA (bF _)) ao)) (fun _ _=>rfl)))
  (au (dB PassesOwn.never rfl (cA rfl m_range (aj (pv 1) ao)) (aO (i:=4) gk.nd rfl (Or.inl rfl))
   (au (aH (i:=3) gk.nd rfl (Or.inl rfl) (aX dj (aX dj (pv 3) (aK C_next hr (by decide) rfl (aj (pv 0) (aj aA ao)))) (aM lH rfl m_int boot_int (aj (rW Mq (pv 4) aA (bF _)) ao))))
  (aD (dO (gB PySem.F.plainAttrs_list PySem.F.slot_list_append PySem.F.type_list_append bN (pv 2) (aj (pv 3) ao))))))
  (aD (aV (aM aL rfl m_tuple boot_tuple (aj (pv 2) ao))))))),?_⟩
 refine ⟨smn 0,fun lm hlm=>?_⟩
 obtain ⟨nmd,nml⟩:=hp.ne hlm
 have hp1:=hp.new (o:=HO.lst []) hlm
 refine ⟨_,_,rfl,rfl,⟨by decide,by decide,by decide⟩,_,_,rfl,rfl,smn 2,fun l2 hl2=>?_⟩
 obtain ⟨n2d,n2l⟩:=hp1.ne hl2
 refine jO (σ:=[some (.ref d),some (.int (n:Nat)),some (.ref lm),none,none]) (i:=0) (m:=12) rfl (hp1.new hl2) (by decide) (by decide) fun r H2 r0 r1 p2 o2=>?_
 have e2v:H2 lm=some (.lst []):=o2 lm _ (aq hl2 _ _ _ ak) nmd nml
 have oA:Old d lo H H2:=((Old.of (aq hlm _)).trans (Old.of (aq hl2 _))).trans o2
 refine ⟨rfl,.inr ⟨_,rfl,Kq (o2 l2 _ ak n2d n2l) fun v hv=>?_⟩⟩
 have e10:(10:Int) ^ (12:Int).toNat=1000000000000:=by decide
 have hv5:0≤v∧v≤999999999500:=by
  rcases hv with rfl | rfl
  ·decide
  ·rw [e10]
   decide
 refine ⟨_,rfl,_,rfl,by omega,by omega,?_⟩
 refine eE (lo:=0) (n:=n) (fun j σ H4=>∃ (v4:Option V) (now:Int) (ms:List Int),σ=[some (.ref d),some (.int (n:Nat)),some (.ref lm),some (.int now),v4]∧bB d lo H4∧Old d lo H H4∧H4 lm=some (.lst (ms.map V.int))∧ms.length=j∧0≤now∧now≤999999999500+30 * j∧(∀ m∈ms,0≤m∧m≤now)∧ms.Pairwise (· < ·))
  ⟨none,v,[],rfl,p2,oA,e2v,rfl,hv5.1,by omega,(fun m h=>by cases h),.nil⟩ ?_ ?_
 ·rintro j σ H4 hj ⟨v4,now,ms,rfl,p4,o4,e4,hl4,hn0,hn1,hms,hpw⟩
  refine gN ⟨_,rfl,?_⟩
  refine jO (σ:=[some (.ref d),some (.int (n:Nat)),some (.ref lm),some (.int now),some (.int (0+(j:Int)))]) (i:=0) (m:=30) rfl p4 (by decide) (by decide) fun r5 H5 q0 q1 p5 o5=>?_
  have e5:H5 lm=some (.lst (ms.map V.int)):=o5 lm _ e4 nmd nml
  refine ⟨_,_,rfl,rfl,_,rfl,_,_,rfl,rfl,.inr ⟨_,rfl,_,_,rfl,rfl,?_⟩⟩
  generalize hb:(if decide ((0:Int) < 0+(j:Int))=true then (1:Int) else 0)=b
  have hb0:0≤b∧b≤1∧(0 < j→b=1):=by
   subst hb
   by_cases hj0:0 < j
   ·rw [if_pos (decide_eq_true (by omega))]
    exact ⟨by decide,by decide,fun _=>rfl⟩
   ·rw [if_neg (fun z=>by have:=of_decide_eq_true z; omega)]
    exact ⟨by decide,by decide,fun z=>absurd z hj0⟩
  refine ⟨_,rfl,.inl ⟨rfl,_,SqL.of e5⟩,_,rfl,lm,_,_,rfl,rfl,e5,?_,?_⟩
  ·rw [List.length_map]
   exact aJ (by omega)
  ·refine ⟨_,now+r5+b,ms++[now+r5+b],rfl,p5.upd nmd nml,(o4.trans o5).free hlm,?_,by rw [List.length_append,hl4]; rfl,by omega,by omega,fun m hm=>?_,?_⟩
   ·rw [ak,List.map_append]
    rfl
   ·rcases List.mem_append.mp hm with z | z
    ·have:=hms m z
     omega
    ·rw [List.mem_singleton.mp z]
     omega
   ·rw [List.pairwise_append]
    refine ⟨hpw,List.pairwise_singleton _ _,fun a ha c hc=>?_⟩
    rw [List.mem_singleton.mp hc]
    have hj0:0 < j:=by
     rw [← hl4]
     exact List.length_pos_of_mem ha
    have:=(hms a ha).2
    have:=hb0.2.2 hj0
    omega
 ·rintro σ H4 ⟨v4,now,ms,rfl,p4,o4,e4,hl4,hn0,hn1,hms,hpw⟩
  refine ⟨_,rfl,lm,_,rfl,.inl ⟨SqL.of e4,fun q hq=>?_⟩⟩
  exact k q ms _ ak ⟨fun m hm=>⟨(hms m hm).1,by have:=(hms m hm).2; omega⟩,hpw,by omega⟩ hl4 (p4.new hq) (o4.trans (Old.of (aq hq _)))
end
def unD:D→List Nat
 | .str x=>x.cps.toList
 | _=>[]
theorem ux (x:List Nat):unD (sD x)=x:=by
 show (x.toArray).toList=x
 simp
theorem oK:∀ (ts:Nms),(ts.map sD).map unD=ts
 | []=>rfl
 | t :: ts=>by rw [List.map_cons,List.map_cons,ux,oK ts]
theorem wJ {ds:List D} {ts:Nms} (h:ds.Perm (ts.map sD)):∃ ns:Nms,ds=ns.map sD∧ns.Perm ts:=by
 refine ⟨ds.map unD,?_,?_⟩
 ·have all:∀ d∈ds,sD (unD d)=d:=fun d hd=>by
   obtain ⟨x,_,rfl⟩:=List.mem_map.mp (h.mem_iff.mp hd)
   rw [ux]
  rw [List.map_map]
  conv=>lhs; rw [← List.map_id ds]
  exact List.map_congr_left fun d hd=>(all d hd).symm
 ·have:=h.map unD
  rwa [oK] at this
theorem JW {a b:List Nat} (h:sD a=sD b):a=b:=by
 have:=congrArg unD h
 rwa [ux,ux] at this
theorem qX {ns:Nms} (hu:UpD (ns.map sD)) (hn:ns.Nodup):ns.Pairwise fun a b=>dlt (sD a) (sD b)=true:=by
 unfold UpD at hu
 rw [List.pairwise_map] at hu
 rw [List.nodup_iff_pairwise_ne] at hn
 refine List.Pairwise.imp₂ (fun a b h1 h2=>?_) hu hn
 cases h:dlt (sD a) (sD b) with
 | true=>rfl
 | false=>exact absurd (JW (ju _ _ h h1)) h2
theorem fX (ts:Nms):Hom (ts.map sD):=by
 refine ⟨fun a ha b hb=>?_,.inr (.inl fun d hd=>?_)⟩
 ·obtain ⟨x,_,rfl⟩:=List.mem_map.mp ha
  obtain ⟨y,_,rfl⟩:=List.mem_map.mp hb
  exact pP _ _
 ·obtain ⟨x,_,rfl⟩:=List.mem_map.mp hd
  exact ⟨_,rfl⟩
theorem lF {α:Type}:∀ {xs:List α} {i:Nat} (h:i < xs.length),xs.Perm ([xs[i]]++xs.eraseIdx i)
 | x :: xs,0,_=>List.Perm.refl _
 | x :: xs,i+1,h=>by
  have h':i < xs.length:=by simpa using h
  have ih:=lF h'
  show (x :: xs).Perm (xs[i] :: x :: xs.eraseIdx i)
  exact ((ih.cons x).trans (List.Perm.swap _ _ _))
def Gv:Sp:=fun vs H Q _=>∃ (d lo l:Addr) (xs:Nms) (n:Int),vs=[.ref d,.ref l,.int n]∧bB d lo H∧H l=some (.lst (xs.map mkT))∧l≠d∧l≠lo∧xs≠[]∧xs.length≤1000∧xs.Nodup∧(∀ x∈xs,isNm ⟨x.toArray⟩=true)∧1≤n∧n≤12 ∧
 ∀ (q:Addr) (ns rest:Nms) (H':Hp),H' q=some (.tup (ns.map mkT))→wK ns→ns≠[]→ns.length≤13→xs.Perm (ns++rest)→H' l=some (.lst (rest.map mkT))→bB d lo H'→iu d lo l H H'→Q (.ref q) H'
section
variable {P:Program} {w:World} {K:PySem.W.Frag} {mg:Str→Option Value} {base:Heap}
theorem G6:aQ ["_law_pot_here", "_law_names_here", "_law_most", "_law_many"] ["_law_pot_here", "_law_names_here", "_law_most"] (aC zU):=⟨rfl,rfl,rfl,by decide +kernel,rfl,by decide +kernel,by decide +kernel⟩
theorem JZ (h:Has K mg "_law_some" zU ["_law_pot_here", "_law_names_here", "_law_most"]) (C_count:Cal P w K mg base "_law_count" 2 ["_law_pot_here", "_law_most"] nQ) (C_taken:Cal P w K mg base "_law_taken" 2 ["_law_pot_here", "_law_names_here"] sY) (m_min:mg "min" = none) (m_len:mg "len" = none) (m_tuple:mg "tuple" = none) (m_sorted:mg "sorted" = none) (m_range:mg "range" = none):Cal P w K mg base "_law_some" 3 ["_law_pot_here", "_law_names_here", "_law_most"] Gv:=by
 refine h.mk' G6 (fun vs H Q E hs=>?_) (fun f cdv A outer s H vs Q E hr hs=>?_)
 ·obtain ⟨d,lo,l,xs,n,rfl,_⟩:=hs
  rfl
 obtain ⟨d,lo,l,xs,n,rfl,hp,hl,nd,nl,hne,hlen,hnd,hnm,hn0,hn1,k⟩:=hs
 refine ⟨_,(au (aH (i:=3) G6.nd rfl (Or.inl rfl) (aP (yq rfl) rfl m_min boot_min (aj (aX dj aA (aK C_count hr (by decide) rfl (aj (pv 0) (aj (aX uX (pv 2) aA) ao)))) (aj (aP cH rfl m_len PySem.boot_len (aj (pv 1) ao)) ao))))
  (aD (aV (aM aL rfl m_tuple boot_tuple (aj (aP (bZ hr.units) rfl m_sorted boot_sorted (aj (cM ["_law_pot_here", "_law_names_here", "_law_most", "_law_many"] (aC zU) ["_law_pot_here", "_law_names_here", "_law_k"] [some 0,some 1,none] rfl rfl rfl (cA rfl m_range (aj (pv 3) ao)) rfl (by decide +kernel) (by decide +kernel) (by decide +kernel) (by decide +kernel) (hg:=fun cl C s H ex pn E=>(aO (i:=2) (by decide +kernel:(["_law_pot_here", "_law_names_here", "_law_k"]:List Str).Nodup) rfl (Or.inl rfl))) (ht:=fun cl C s H ex pn E=>cD) (he:=fun cl C s H ex pn E=>(aK C_taken hr (by decide) rfl (aj (pv 0) (aj (pv 1) ao))))) ao)) ao))))),?_⟩
 have hpos:0 < xs.length:=List.length_pos_iff.mpr hne
 refine ⟨_,rfl,_,rfl,_,_,rfl,rfl,d,lo,_,rfl,hp,by omega,by omega,fun r H2 r0 r1 p2 o2=>?_⟩
 have hl2:H2 l=some (.lst (xs.map mkT)):=o2 l _ hl nd nl
 refine ⟨_,_,rfl,rfl,_,rfl,l,_,rfl,.inl (SqL.of hl2),_,_,rfl,?_⟩
 rw [List.length_map]
 obtain ⟨many,em,hm1,hm2,hm3⟩:∃ many:Nat,(if (xs.length:Int) < 1+r then (xs.length:Int) else 1+r)=(many:Int)∧1≤many∧many≤13∧many≤xs.length:=by
  by_cases hc:(xs.length:Int) < 1+r
  ·rw [if_pos hc]
   exact ⟨xs.length,rfl,hpos,by omega,Nat.le_refl _⟩
  ·rw [if_neg hc]
   exact ⟨(1+r).toNat,by omega,by omega,by omega,by omega⟩
 rw [em]
 refine ⟨_,rfl,_,rfl,by omega,by omega,fun lc hlc=>?_⟩
 obtain ⟨ncd,ncl⟩:=p2.ne hlc
 have ncL:lc≠l:=(aB hl2 hlc).symm
 refine fu (J:=Itr 0 many) (l:=lc) many (fun i σ' H'=>∃ (v:Option V) (ts rest:Nms),σ'=[some (.ref d),some (.ref l),v]∧H' lc=some (.lst (ts.map mkT))∧H' l=some (.lst (rest.map mkT))∧ts.length=i∧xs.Perm (ts++rest)∧bB d lo H'∧iu d lo l H H')
  ⟨none,[],xs,rfl,ak,(aF ncL.symm).trans hl2,rfl,List.Perm.refl _,p2.new hlc,fun c o e h1 h2 h3=>aq hlc _ _ _ (o2 c o e h1 h2)⟩ ?_ ?_
 ·rintro σ' H' ⟨v,ts,rest,rfl,e1,e2,hlt,hpm,p3,o3⟩
  refine ⟨Nat.le_refl _,lc,_,_,rfl,.inl (SqL.of e1),cO _ ts,fX ts,by rw [List.length_map]; omega,fun x hx=>?_,fun l4 us ds' hl4 hpd hup hdn=>?_⟩
  ·obtain ⟨y,_,rfl⟩:=List.mem_map.mp hx
   exact show eO 50 _ from dF (n:=0) (dD _) 50
  obtain ⟨ns,rfl,hns⟩:=wJ hpd
  have eu:=Dp hdn
  subst eu
  have hpm2:xs.Perm (ns++rest):=hpm.trans (hns.symm.append_right rest)
  have hnd2:ns.Nodup:=(hpm2.nodup_iff.mp hnd).sublist (List.sublist_append_left _ _)
  have s4:=aq hl4 (.lst (ns.map mkT))
  refine ⟨l4,_,rfl,.inl ⟨SqL.of ak,fun q hq=>?_⟩⟩
  have s5:=s4.trans (aq hq (.tup (ns.map mkT)))
  refine k q ns rest _ ak ⟨fun x hx=>hnm x (hpm2.mem_iff.mpr (List.mem_append_left _ hx)),qX hup hnd2,by rw [hns.length_eq]; omega⟩ ?_ (by rw [hns.length_eq]; omega) hpm2 (s5 _ _ e2) (p3.same s5) fun c o e h1 h2 h3=>s5 _ _ (o3 c o e h1 h2 h3)
  intro z
  subst z
  have:=hns.length_eq
  simp at this
  omega
 ·rintro i σ' H' hi ⟨v,ts,rest,rfl,e1,e2,hlt,hpm,p3,o3⟩
  have hrl:ts.length+rest.length=xs.length:=by
   have:=hpm.length_eq
   rw [List.length_append] at this
   omega
  refine ⟨hi,?_⟩
  rintro y H'' ⟨rfl,rfl⟩
  refine gN (xR (oX ?_))
  refine ⟨_,rfl,_,rfl,d,lo,l,rest,rfl,p3,e2,nd,nl,(fun z=>by subst z; simp at hrl; omega),by omega,fun j hj H4 e4 p4 o4=>?_⟩
  have e1':H4 lc=some (.lst (ts.map mkT)):=o4 lc _ e1 ncd ncl ncL
  refine ⟨_,e1',?_,_,ts++[rest[j]],rest.eraseIdx j,rfl,?_,(aF ncL.symm).trans e4,by rw [List.length_append,hlt]; rfl,?_,p4.upd ncd ncl,?_⟩
  ·rw [List.length_map]
   exact aJ (by omega)
  ·rw [ak,List.map_append]
   rfl
  ·refine hpm.trans ?_
   rw [List.append_assoc]
   exact (lF hj).append_left ts
  ·intro c o e h1 h2 h3
   have hlcH:H lc=none:=by
    cases hc:H lc with
    | none=>rfl
    | some o' =>
     have:=o2 lc o' hc ncd ncl
     rw [hlc] at this
     cases this
   rw [aF (aB e hlcH)]
   exact o4 c o (o3 c o e h1 h2 h3) h1 h2 h3
end
def Ai:Sp:=fun vs H Q _=>∃ (d lo:Addr),vs=[.ref d]∧bB d lo H∧∀ (t:List Nat) (H':Hp),t.length≤400→(∀ c∈t,mq c)→bB d lo H'→Old d lo H H'→Q (.str ⟨t.toArray⟩) H'
section
variable {P:Program} {w:World} {K:PySem.W.Frag} {mg:Str→Option Value} {base:Heap}
theorem len_rep {α:Type} (n:Nat) (t:List α):(List.replicate n t).flatten.length=n * t.length:=by
 induction n with
 | zero=>simp
 | succ n ih=>rw [List.replicate_succ,List.flatten_cons,List.length_append,ih,Nat.succ_mul,Nat.add_comm]
theorem Hj {α:Type} {n:Nat} {t:List α} {c:α} (h:c∈(List.replicate n t).flatten):c∈t:=by
 obtain ⟨l,hl,hc⟩:=List.mem_flatten.mp h
 rw [(List.mem_replicate.mp hl).2] at hc
 exact hc
theorem Fe (x:Str):x=⟨x.cps.toList.toArray⟩:=by cases x; simp
theorem kO:aQ ["_law_pot_here", "_law_pieces", "_law_text_here", "_law_k"] ["_law_pot_here"] (aC Dr):=⟨rfl,rfl,rfl,by decide +kernel,rfl,by decide +kernel,by decide +kernel⟩
theorem Ld (h:Has K mg "_law_text" Dr ["_law_pot_here"]) (C_next:Cal P w K mg base "_law_next" 1 ["_law_pot_here", "_law_many"] gY) (m_range:mg "range" = none):Cal P w K mg base "_law_text" 2 ["_law_pot_here"] Ai:=by
 refine h.mk' kO (fun vs H Q E hs=>?_) (fun f cdv A outer s H vs Q E hr hs=>?_)
 ·obtain ⟨d,lo,rfl,_⟩:=hs
  rfl
 obtain ⟨d,lo,rfl,hp,k⟩:=hs
 refine qex ⟨_,(fB (Gk (i:=1) kO.nd rfl (Or.inl rfl) (Ml (Cq ⟨aG⟩ (Cq ⟨aG⟩ (Cq ⟨aG⟩ (Cq ⟨aG⟩ (Cq ⟨aG⟩ (Cq ⟨aG⟩ (Cq ⟨aG⟩ (Cq ⟨aG⟩ (Cq ⟨aG⟩ (Cq ⟨aG⟩ (Cq ⟨aG⟩ K3)))))))))))))
  ⟨(au (aH (i:=1) kO.nd rfl (Or.inl rfl) (aX lW (pv 1) (bV (aj aG (aj aG (aj aG ao))))))
  (au (aH (i:=2) kO.nd rfl (Or.inl rfl) aG)
  (au (dB PassesOwn.never rfl (cA rfl m_range (aj (aK C_next hr (by decide) rfl (aj (pv 0) (aj aA ao))) ao)) (aO (i:=3) kO.nd rfl (Or.inl rfl))
   (aD (aH (i:=2) kO.nd rfl (Or.inl rfl) (aX bM (pv 2) (aY bQ (pv 1) (aK C_next hr (by decide) rfl (aj (pv 0) (aj aA ao))) (fun _ _=>rfl))))))
  (au (dJ (aZ iT (aK C_next hr (by decide) rfl (aj (pv 0) (aj aA ao))) aA (bF _))
   (aD (aH (i:=2) kO.nd rfl (Or.inl rfl) (aX jr (aX bM (pv 2) aG) aA)))
   bH)
  (aD (aV (cC lC (pv 2) dh (dg aA))))))))⟩),?_⟩
 refine ⟨smn 11,fun lm hlm=>?_⟩
 have hp1:=hp.new (o:=HO.lst ((["One", "two 3", "a", " ", "x-y", "Zz9", "~", "Word word", "4", ", ", "_b"]:List Str).map V.str)) hlm
 have em:(upd H lm (.lst ((["One", "two 3", "a", " ", "x-y", "Zz9", "~", "Word word", "4", ", ", "_b"]:List Str).map V.str))) lm=some (.lst ((["One", "two 3", "a", " ", "x-y", "Zz9", "~", "Word word", "4", ", ", "_b"]:List Str).map V.str)):=ak
 refine ⟨_,rfl,smn 3,fun l2 hl2=>?_⟩
 have e2:(upd (upd H lm (.lst ((["One", "two 3", "a", " ", "x-y", "Zz9", "~", "Word word", "4", ", ", "_b"]:List Str).map V.str))) l2 (.lst ((["\n", "\\", "\""]:List Str).map V.str))) l2=some (.lst ((["\n", "\\", "\""]:List Str).map V.str)):=ak
 have hp2:=hp1.new (o:=HO.lst ((["\n", "\\", "\""]:List Str).map V.str)) hl2
 refine ⟨lm,l2,_,_,rfl,rfl,aq hl2 _ _ _ em,e2,smn 14,fun l3 hl3=>?_⟩
 have oA:Old d lo H _:=((Old.of (aq hlm _)).trans (Old.of (aq hl2 _))).trans (Old.of (aq hl3 (.lst ((["One", "two 3", "a", " ", "x-y", "Zz9", "~", "Word word", "4", ", ", "_b", "\n", "\\", "\""]:List Str).map V.str))))
 have hp3:=hp2.new (o:=HO.lst ((["One", "two 3", "a", " ", "x-y", "Zz9", "~", "Word word", "4", ", ", "_b", "\n", "\\", "\""]:List Str).map V.str)) hl3
 obtain ⟨nmd,nml⟩:=hp2.ne hl3
 have gm:∀ x∈(["One", "two 3", "a", " ", "x-y", "Zz9", "~", "Word word", "4", ", ", "_b", "\n", "\\", "\""]:List Str),x.length≤9∧∀ c∈x.cps.toList,mq c:=by decide +kernel
 have hml:(["One", "two 3", "a", " ", "x-y", "Zz9", "~", "Word word", "4", ", ", "_b", "\n", "\\", "\""]:List Str).length=14:=rfl
 refine jO (σ:=[some (.ref d),some (.ref l3),some (.str ""),none]) (i:=0) (m:=6) rfl hp3 (by decide) (by decide) fun r H2 r0 r1 p2 o2=>?_
 have e3m:H2 l3=some (.lst ((["One", "two 3", "a", " ", "x-y", "Zz9", "~", "Word word", "4", ", ", "_b", "\n", "\\", "\""]:List Str).map V.str)):=o2 l3 _ ak nmd nml
 have oB:=oA.trans o2
 refine ⟨r,rfl,by omega,by omega,?_⟩
 generalize (["One", "two 3", "a", " ", "x-y", "Zz9", "~", "Word word", "4", ", ", "_b", "\n", "\\", "\""]:List Str)=MENU at e3m gm hml
 refine eE (lo:=0) (n:=r.toNat) (fun j σ H4=>∃ (x:Str) (v3:Option V),σ=[some (.ref d),some (.ref l3),some (.str x),v3]∧bB d lo H4∧Old d lo H H4∧H4 l3=some (.lst (MENU.map V.str))∧x.length≤9 * j∧∀ c∈x.cps.toList,mq c)
  ⟨"",none,rfl,p2,oB,e3m,by decide +kernel,by decide +kernel⟩ ?_ ?_
 ·rintro j σ H4 hj ⟨x,v3,rfl,p4,o4,e4m,hx,gx⟩
  have hj41:j < 6:=by omega
  refine ⟨_,rfl,_,rfl,?_⟩
  refine jO (σ:=[some (.ref d),some (.ref l3),some (.str x),some (.int (0+(j:Int)))]) (i:=0) (m:=14) rfl p4 (by decide) (by decide) fun r5 H5 w0 w1 p5 o5=>?_
  obtain ⟨y,hy,hm⟩:=Lw (xs:=MENU.map V.str) w0 (by rw [List.length_map,hml]; exact w1)
  obtain ⟨m,hmm,rfl⟩:=List.mem_map.mp hm
  obtain ⟨g1,g2⟩:=gm m hmm
  refine ⟨l3,_,r5,_,rfl,rfl,SqL.of (o5 l3 _ e4m nmd nml),hy,_,_,rfl,rfl,small (by omega),?_⟩
  refine ⟨x++m,_,rfl,p5,o4.trans o5,o5 l3 _ e4m nmd nml,?_,good_str gx g2⟩
  have e:(x++m).length=x.length+m.length:=by
   show (x.cps++m.cps).size=_
   rw [Array.size_append]
   rfl
  rw [e]
  omega
 ·rintro σ H4 ⟨x,v3,rfl,p4,o4,e4m,hx,gx⟩
  refine jO (σ:=[some (.ref d),some (.ref l3),some (.str x),v3]) (i:=0) (m:=16) rfl p4 (by decide) (by decide) fun r5 H5 w0 w1 p5 o5=>?_
  refine ⟨rfl,_,rfl,?_⟩
  have fin:∀ (z:Str),z.length≤20000→(∀ c∈z.cps.toList,mq c)→Q (.str (Txt.slice z none (some 400))) H5:=fun z hz gz=>by
   have es:Txt.slice z none (some 400)=⟨(z.cps.toList.take 400).toArray⟩:=SLi.upto z 400
   rw [es]
   exact k _ H5 (by rw [List.length_take]; omega) (fun c hc=>gz c (List.mem_of_mem_take hc)) p5 (o4.trans o5)
  refine gR (fun h1=>?_) (fun h1=>?_)
  ·have e:(x ++ "q ").length=x.length+2:=by
    show (x.cps++("q " : Str).cps).size=_
    rw [Array.size_append]
    rfl
   have gy:∀ c∈(x ++ "q ").cps.toList,mq c:=good_str gx (by decide +kernel)
   refine ⟨_,rfl,_,_,rfl,rfl,small (by rw [show (("q " : Str)).length=2 from rfl]; omega),?_⟩
   generalize x ++ "q " = y at e gy
   have hyl:y.cps.toList.length≤60:=by
    have:y.cps.size=x.length+2:=e
    rw [Array.length_toList]
    omega
   rw [Fe y]
   refine ⟨y.cps.toList,200,rfl,rfl,by decide,by omega,?_⟩
   have hl:(List.replicate 200 y.cps.toList).flatten.length≤20000:=by
    rw [len_rep]
    omega
   refine ⟨_,rfl,_,rfl,_,rfl,?_,fin _ ?_ ?_⟩
   ·show (List.replicate 200 y.cps.toList).flatten.toArray.size≤_
    rw [List.size_toArray]
    exact Nat.le_trans hl (Nat.le_trans (by decide) bJ)
   ·show (List.replicate 200 y.cps.toList).flatten.toArray.size≤_
    rw [List.size_toArray]
    exact hl
   ·intro c hc
    have hc':c∈(List.replicate 200 y.cps.toList).flatten:=by
     have e:(List.replicate 200 y.cps.toList).flatten.toArray.toList=(List.replicate 200 y.cps.toList).flatten:=List.toList_toArray
     rw [← e]
     exact hc
    exact gy c (Hj hc')
  ·refine ⟨_,rfl,_,rfl,x,rfl,small (by omega),fin x (by omega) gx⟩
end
def Bm:Sp:=fun vs H Q _=>∃ (d lo l:Addr) (xs:Nms),vs=[.ref d,.ref l]∧bB d lo H∧H l=some (.lst (xs.map mkT))∧l≠d∧l≠lo∧30≤xs.length∧xs.length≤1000∧(∀ x∈xs,isNm ⟨x.toArray⟩=true) ∧
 ∀ (q:Addr) (Ps:List (List Prt)) (rest:Nms) (H':Hp),Den H' (.ref q) (.tup (Ps.map fun L=>.tup (L.map bw)))→Ps.length=2→(∀ L∈Ps,L.length≤12∧∀ p∈L,tV p)→xs.Perm (Ps.flatten.map (·.1)++rest)→H' l=some (.lst (rest.map mkT))→bB d lo H'→iu d lo l H H'→Q (.ref q) H'
section
variable {P:Program} {w:World} {K:PySem.W.Frag} {mg:Str→Option Value} {base:Heap}
theorem iu.of {d lo l:Addr} {H H':Hp} (s:Same H H'):iu d lo l H H':=fun c o e _ _ _=>s c o e
theorem iu.of2 {d lo l:Addr} {H H':Hp} (s:Old d lo H H'):iu d lo l H H':=fun c o e h1 h2 _=>s c o e h1 h2
theorem iu.trans {d lo l:Addr} {H H1 H2:Hp} (a:iu d lo l H H1) (b:iu d lo l H1 H2):iu d lo l H H2:=fun c o e h1 h2 h3=>b c o (a c o e h1 h2 h3) h1 h2 h3
theorem iu.free {d lo l b:Addr} {H H1:Hp} {o:HO} (a:iu d lo l H H1) (hb:H b=none):iu d lo l H (L2.upd H1 b o):=fun c o' e h1 h2 h3=>by
 rw [aF (aB e hb)]
 exact a c o' e h1 h2 h3
theorem kj {d lo l:Addr} {H H':Hp} {ys:List V} (hp:bB d lo H) (hl:H l=some (.lst ys)) (o:iu d lo l H H'):∀ (b:Addr) (vs:List V),H b=some (.tup vs)→H' b=some (.tup vs):=fun b vs e=>by
 obtain ⟨cs,k,sd,m,e1,e2,r⟩:=hp
 exact o b _ e (iC e e1 (by intro z; cases z)) (iC e e2 (by intro z; cases z)) (iC e hl (by intro z; cases z))
theorem iR {H:Hp} {l:Addr} {ys zs:List V} (hl:H l=some (.lst ys)):∀ (b:Addr) (vs:List V),H b=some (.tup vs)→upd H l (.lst zs) b=some (.tup vs):=fun b vs e=>by
 rw [aF (iC e hl (by intro z; cases z))]
 exact e
theorem jz:aQ ["_law_pot_here", "_law_names_here", "_law_sides_here", "_law_side_here", "_law_parts", "_law_k", "_law_moments_here"] ["_law_pot_here", "_law_names_here"] (aC uR):=⟨rfl,rfl,rfl,by decide +kernel,rfl,by decide +kernel,by decide +kernel⟩
theorem Ik (h:Has K mg "_law_sides" uR ["_law_pot_here", "_law_names_here"]) (C_count:Cal P w K mg base "_law_count" 2 ["_law_pot_here", "_law_most"] nQ) (C_moments:Cal P w K mg base "_law_moments" 2 ["_law_pot_here", "_law_many"] iY) (C_text:Cal P w K mg base "_law_text" 2 ["_law_pot_here"] Ai) (C_taken:Cal P w K mg base "_law_taken" 2 ["_law_pot_here", "_law_names_here"] sY) (m_range:mg "range" = none) (m_tuple:mg "tuple" = none):Cal P w K mg base "_law_sides" 3 ["_law_pot_here", "_law_names_here"] Bm:=by
 refine h.mk' jz (fun vs H Q E hs=>?_) (fun f cdv A outer s H vs Q E hr hs=>?_)
 ·obtain ⟨d,lo,l,xs,rfl,_⟩:=hs
  rfl
 obtain ⟨d,lo,l,xs,rfl,hp,hl,nd,nl,hx0,hx1,hnm,k⟩:=hs
 refine ⟨_,(au (aH (i:=2) jz.nd rfl (Or.inl rfl) (bV ao))
  (au (dB PassesOwn.never rfl (fO (cB (aj aA (aj aA ao)))) (aO (i:=3) jz.nd rfl (Or.inl rfl))
   (au (aH (i:=4) jz.nd rfl (Or.inl rfl) (bV ao))
  (au (dB PassesOwn.never rfl (cA rfl m_range (aj (aK C_count hr (by decide) rfl (aj (pv 0) (aj aA ao))) ao)) (aO (i:=5) jz.nd rfl (Or.inl rfl))
   (au (aH (i:=6) jz.nd rfl (Or.inl rfl) (aK C_moments hr (by decide) rfl (aj (pv 0) (aj (aX dj aA (aK C_count hr (by decide) rfl (aj (pv 0) (aj aA ao)))) ao))))
  (aD (dO (gB PySem.F.plainAttrs_list PySem.F.slot_list_append PySem.F.type_list_append bN (pv 4) (aj (cB (aj (aK C_taken hr (by decide) rfl (aj (pv 0) (aj (pv 1) ao))) (aj (aK C_text hr (by decide) rfl (aj (pv 0) ao)) (aj (pv 6) ao)))) ao))))))
  (aD (dO (gB PySem.F.plainAttrs_list PySem.F.slot_list_append PySem.F.type_list_append bN (pv 2) (aj (aM aL rfl m_tuple boot_tuple (aj (pv 4) ao)) ao)))))))
  (aD (aV (aM aL rfl m_tuple boot_tuple (aj (pv 2) ao)))))),?_⟩
 refine ⟨smn 0,fun ls hls=>?_⟩
 obtain ⟨nsd,nsl⟩:=hp.ne hls
 have nsL:ls≠l:=(aB hl hls).symm
 have s1:=aq hls (.lst [])
 refine ⟨smn 2,fun tt htt=>?_⟩
 have s2:=aq htt (.tup [.int 0,.int 1])
 refine ⟨tt,rfl,⟨_,SqT.of ak⟩,?_⟩
 refine jA (K:=K) (a:=tt) (xs:=[.int 0,.int 1]) (fun i σ H4=>∃ (v3 v4 v5 v6:Option V) (us:List V) (Ps:List (List Prt)) (rest:Nms),σ=[some (.ref d),some (.ref l),some (.ref ls),v3,v4,v5,v6]∧bB d lo H4∧H4 l=some (.lst (rest.map mkT))∧H4 ls=some (.lst us)∧H4 tt=some (.tup [.int 0,.int 1]) ∧
   bI H4 us (Ps.map fun L=>D.tup (L.map bw))∧Ps.length=i∧(∀ L∈Ps,L.length≤12∧∀ p∈L,tV p)∧xs.Perm (Ps.flatten.map (·.1)++rest)∧iu d lo l H H4)
  ⟨none,none,none,none,[],[],xs,rfl,(hp.same s1).same s2,s2 _ _ (s1 _ _ hl),s2 _ _ ak,ak,trivial,rfl,(fun L hL=>by cases hL),List.Perm.refl _,iu.of (s1.trans s2)⟩ ?_ ?_ ?_
 ·rintro i σ H4 _ ⟨v3,v4,v5,v6,us,Ps,rest,rfl,p4,e4l,e4s,e4t,r⟩
  exact SqT.of e4t
 ·rintro i y σ H4 hi ⟨v3,v4,v5,v6,us,Ps,rest,rfl,p4,e4l,e4s,e4t,dn,hPl,hPg,hpm,o4⟩
  refine gN ⟨smn 0,fun lp hlp=>?_⟩
  obtain ⟨npd,npl⟩:=p4.ne hlp
  have npL:lp≠l:=(aB e4l hlp).symm
  have nps:lp≠ls:=(aB e4s hlp).symm
  have s5:=aq hlp (.lst [])
  refine ⟨_,rfl,d,lo,5,rfl,p4.same s5,by decide,by decide,fun r H5 r0 r1 p5 o5=>?_⟩
  refine ⟨r,rfl,by omega,by omega,?_⟩
  have k5:=cP (p4.same s5) o5
  refine eE (lo:=0) (n:=r.toNat) (fun j σ H6=>∃ (v5 v6:Option V) (ws:List V) (qs:List Prt) (rest':Nms),σ=[some (.ref d),some (.ref l),some (.ref ls),some y,some (.ref lp),v5,v6]∧bB d lo H6∧H6 l=some (.lst (rest'.map mkT))∧H6 ls=some (.lst us)∧H6 tt=some (.tup [.int 0,.int 1])∧H6 lp=some (.lst ws) ∧
    bI H6 us (Ps.map fun L=>D.tup (L.map bw))∧bI H6 ws (qs.map bw)∧qs.length=j∧(∀ p∈qs,tV p)∧xs.Perm (Ps.flatten.map (·.1)++qs.map (·.1)++rest')∧iu d lo l H H6)
   ⟨_,_,[],[],rest,rfl,p5,o5 l _ (s5 _ _ e4l) nd nl,o5 ls _ (s5 _ _ e4s) nsd nsl,k5 tt _ (s5 _ _ e4t),o5 lp _ ak npd npl,(dn.same s5).keepT k5,trivial,rfl,(fun p hp=>by cases hp),by rw [List.map_nil,List.append_nil]; exact hpm,(o4.trans (iu.of s5)).trans (iu.of2 o5)⟩ ?_ ?_
  ·rintro j σ H6 hj ⟨v5,v6,ws,qs,rest',rfl,p6,e6l,e6s,e6t,e6p,dn6,dw6,hql,hqg,hpm6,o6⟩
   have hj12:j < 12:=by omega
   have hrl:Ps.flatten.length+j+rest'.length=xs.length:=by
    have:=hpm6.length_eq
    rw [List.length_append,List.length_append,List.length_map,List.length_map] at this
    omega
   refine gN ⟨_,rfl,_,rfl,d,lo,2,rfl,p6,by decide,by decide,fun c H7 c0 c1 p7 o7=>?_⟩
   obtain ⟨cn,rfl⟩:=Int.eq_ofNat_of_zero_le c0
   refine ⟨_,_,rfl,rfl,d,lo,1+cn,by show [V.ref d,V.int (1+((cn:Nat):Int))]=_; rw [show (1:Int)+((cn:Nat):Int)=((1+cn:Nat):Int) by omega],p7,by omega,fun q8 ms H8 e8q gm hml p8 o8=>?_⟩
   have k7:=cP p6 o7
   have k8:=cP p7 o8
   have e8l:H8 l=_:=o8 l _ (o7 l _ e6l nd nl) nd nl
   have e8s:H8 ls=_:=o8 ls _ (o7 ls _ e6s nsd nsl) nsd nsl
   have e8p:H8 lp=_:=o8 lp _ (o7 lp _ e6p npd npl) npd npl
   have hrne:rest'≠[]:=fun z=>by
    subst z
    have hP2:Ps.flatten.length≤12:=by
     have hi2:i < 2:=(List.getElem?_eq_some_iff.mp hi).1
     match Ps,hPl,hPg with
     | [],_,_=>simp
     | [L],_,hPg=>simpa using (hPg L (.head _)).1
     | _ :: _ :: _,hPl,_=>simp only [List.length_cons] at hPl; omega
    simp only [List.length_nil] at hrl
    omega
   refine gN ⟨_,rfl,.inl ⟨rfl,_,SqL.of e8p⟩,_,rfl,_,rfl,d,lo,l,rest',rfl,p8,e8l,nd,nl,hrne,by omega,fun i9 hi9 H9 e9 p9 o9=>?_⟩
   refine ⟨_,rfl,d,lo,rfl,p9,fun tx H10 htx gtx p10 o10=>?_⟩
   refine ⟨_,rfl,smn 3,fun tp htp=>?_⟩
   have k9:=kj p8 e8l o9
   have k10:=cP p9 o10
   have e10p:H10 lp=_:=o10 lp _ (o9 lp _ e8p npd npl npL) npd npl
   have e10s:H10 ls=_:=o10 ls _ (o9 ls _ e8s nsd nsl nsL) nsd nsl
   have e10l:H10 l=_:=o10 l _ e9 nd nl
   have s11:=aq htp (.tup [mkT rest'[i9],.str ⟨tx.toArray⟩,.ref q8])
   have kA:∀ (b:Addr) (vs:List V),H6 b=some (.tup vs)→H10 b=some (.tup vs):=fun b vs e=>k10 b vs (k9 b vs (k8 b vs (k7 b vs e)))
   have kT:=iR (zs:=ws++[.ref tp]) (s11 _ _ e10p)
   refine ⟨lp,ws,_,rfl,rfl,s11 _ _ e10p,?_,?_⟩
   ·have:=dw6.len
    rw [List.length_map] at this
    exact aJ (by omega)
   ·refine ⟨_,_,ws++[.ref tp],qs++[(rest'[i9],tx,ms)],rest'.eraseIdx i9,rfl,(p10.same s11).upd npd npl,(aF npL.symm).trans (s11 _ _ e10l),(aF nps.symm).trans (s11 _ _ e10s),kT _ _ (s11 _ _ (kA _ _ e6t)),ak,((dn6.keepT kA).same s11).keepT kT,?_,by rw [List.length_append,hql]; rfl,?_,?_,?_⟩
    ·rw [List.map_append]
     refine bI.snoc (Den.keepT kT (show Den (upd H10 tp (.tup [mkT rest'[i9],.str ⟨tx.toArray⟩,.ref q8])) (.ref tp) (bw (rest'[i9],tx,ms)) from ⟨tp,_,rfl,ak,rfl,rfl,⟨q8,_,rfl,s11 _ _ (k10 _ _ (k9 _ _ e8q)),fG _ ms⟩,trivial⟩)) (((dw6.keepT kA).same s11).keepT kT)
    ·intro p hp'
     rcases List.mem_append.mp hp' with z | z
     ·exact hqg p z
     ·rw [List.mem_singleton.mp z]
      refine ⟨hnm _ (hpm6.mem_iff.mpr (List.mem_append_right _ (List.getElem_mem hi9))),by show tx.length≤_; omega,gtx,gm,fun z=>?_⟩
      have:ms=[]:=z
      rw [this] at hml
      simp at hml
      omega
    ·refine hpm6.trans ?_
     rw [List.map_append,List.append_assoc,List.append_assoc,List.append_assoc]
     exact ((lF hi9).append_left _).append_left _
    ·refine iu.free ?_ ?_
     ·exact (((((o6.trans (iu.of2 o7)).trans (iu.of2 o8)).trans o9).trans (iu.of2 o10)).trans (iu.of s11))
     ·cases hc:H lp with
      | none=>rfl
      | some o' =>
       have:=o4 lp o' hc npd npl npL
       rw [hlp] at this
       cases this
  ·rintro σ H6 ⟨v5,v6,ws,qs,rest',rfl,p6,e6l,e6s,e6t,e6p,dn6,dw6,hql,hqg,hpm6,o6⟩
   refine ⟨_,rfl,.inl ⟨rfl,_,SqL.of e6s⟩,_,rfl,lp,_,rfl,.inl ⟨SqL.of e6p,fun q hq=>?_⟩⟩
   have s7:=aq hq (.tup ws)
   refine ⟨ls,us,_,rfl,rfl,s7 _ _ e6s,?_,?_⟩
   ·have:=dn6.len
    rw [List.length_map] at this
    have hi2:i < 2:=(List.getElem?_eq_some_iff.mp hi).1
    exact aJ (by omega)
   ·have kT:=iR (zs:=us++[.ref q]) (s7 _ _ e6s)
    refine ⟨_,_,_,_,us++[.ref q],Ps++[qs],rest',rfl,(p6.same s7).upd nsd nsl,(aF nsL.symm).trans (s7 _ _ e6l),ak,kT _ _ (s7 _ _ e6t),?_,by rw [List.length_append,hPl]; rfl,fun L hL=>?_,?_,(o6.trans (iu.of s7)).free hls⟩
    ·rw [List.map_append]
     exact bI.snoc (Den.keepT kT (show Den (upd H6 q (.tup ws)) (.ref q) (.tup (qs.map bw)) from ⟨q,ws,rfl,ak,dw6.same s7⟩)) ((dn6.same s7).keepT kT)
    ·rcases List.mem_append.mp hL with z | z
     ·exact hPg L z
     ·rw [List.mem_singleton.mp z]
      exact ⟨by omega,hqg⟩
    ·rw [List.flatten_append,List.map_append]
     simpa using hpm6
 ·rintro σ H4 ⟨v3,v4,v5,v6,us,Ps,rest,rfl,p4,e4l,e4s,e4t,dn,hPl,hPg,hpm,o4⟩
  refine ⟨_,rfl,ls,_,rfl,.inl ⟨SqL.of e4s,fun q hq=>?_⟩⟩
  have s5:=aq hq (.tup us)
  exact k q Ps rest _ ⟨q,us,rfl,ak,dn.same s5⟩ hPl hPg hpm (s5 _ _ e4l) (p4.same s5) (o4.trans (iu.of s5))
end
def Br:Sp:=fun vs H Q _=>∃ (d lo:Addr),vs=[.ref d]∧bB d lo H∧∀ (l:Addr) (xs:Nms) (H':Hp),H l=none→H' l=some (.lst (xs.map mkT))→wu xs→bB d lo H'→Old d lo H H'→Q (.ref l) H'
def Dw (t:Nat):Str:=⟨((List.range 26).map (ltr t)).toArray⟩
theorem FN:LET.cps.toList=(List.range 26).map (97 + ·):=by decide +kernel
theorem wM {t:Nat} (h:t < 26):Txt.slice LET (some (t:Int)) none++Txt.slice LET none (some (t:Int))=Dw t:=by
 rw [SLi.from_,SLi.upto,FN]
 show (⟨_++_⟩:Str)=_
 rw [List.append_toArray,zc h (i:=0) (by decide)]
 rfl
theorem DQ (t:Nat):(Dw t).length=26:=by
 show ((List.range 26).map (ltr t)).toArray.size=26
 simp
theorem iB {t i:Nat} (hi:i < 26) {x:Int} (hx:x=(i:Nat)):atI (Dw t).cps.toList x=some (ltr t i):=by
 subst hx
 refine aW ?_
 show (((List.range 26).map (ltr t)).toArray).toList[i]?=_
 simp [List.getElem?_range hi]
theorem rep1 (n c:Nat):(List.replicate n [c]).flatten=List.replicate n c:=by
 induction n with
 | zero=>rfl
 | succ n ih=>rw [List.replicate_succ,List.flatten_cons,ih]; rfl
theorem pY (a b:List Nat):(⟨a.toArray⟩:Str)++(⟨b.toArray⟩:Str)=⟨(a++b).toArray⟩:=by
 show (⟨_++_⟩:Str)=_
 rw [List.append_toArray]
theorem jD (a:List Nat):(⟨a.toArray⟩:Str).length=a.length:=by show a.toArray.size=_; simp
theorem jo (f:Nat→List Nat) (i:Nat):((List.range i).map f).map mkT++[mkT (f i)]=((List.range (i+1)).map f).map mkT:=by
 rw [List.range_succ,List.map_append,List.map_append]
 rfl
theorem Old.none {d lo b:Addr} {H H':Hp} (o:Old d lo H H') (hp:bB d lo H) (hp':bB d lo H') (hb:H' b=none):H b=none:=by
 obtain ⟨h1,h2⟩:=hp'.ne hb
 cases e:H b with
 | none=>rfl
 | some u =>
  have:=o b u e h1 h2
  rw [hb] at this
  cases this
section
variable {P:Program} {w:World} {K:PySem.W.Frag} {mg:Str→Option Value} {base:Heap}
theorem gC:aQ ["_law_pot_here", "_law_letters", "_law_turn", "_law_way", "_law_at", "_law_ahead", "_law_behind"] ["_law_pot_here"] (aC lG):=⟨rfl,rfl,rfl,by decide +kernel,rfl,by decide +kernel,by decide +kernel⟩
theorem Hw (h:Has K mg "_law_names" lG ["_law_pot_here"]) (C_next:Cal P w K mg base "_law_next" 1 ["_law_pot_here", "_law_many"] gY) (m_range:mg "range" = none):Cal P w K mg base "_law_names" 2 ["_law_pot_here"] Br:=by
 refine h.mk' gC (fun vs H Q E hs=>?_) (fun f cdv A outer s H vs Q E hr hs=>?_)
 ·obtain ⟨d,lo,rfl,_⟩:=hs
  rfl
 obtain ⟨d,lo,rfl,hp,k⟩:=hs
 refine ⟨_,(au (aH (i:=1) gC.nd rfl (Or.inr rfl) aG)
  (au (aH (i:=2) gC.nd rfl (Or.inl rfl) (aK C_next hr (by decide) rfl (aj (pv 0) (aj aA ao))))
  (au (aH (i:=1) gC.nd rfl (Or.inr rfl) (aX bM (cC lC (pv 1) (dg (pv 2)) dh) (cC lC (pv 1) dh (dg (pv 2)))))
  (au (aH (i:=3) gC.nd rfl (Or.inl rfl) (aK C_next hr (by decide) rfl (aj (pv 0) (aj aA ao))))
  (au (dJ (aZ iT (pv 3) aA (bF _))
   (aD (aV (cM ["_law_pot_here", "_law_letters", "_law_turn", "_law_way", "_law_at", "_law_ahead", "_law_behind"] (aC lG) ["_law_letters", "_law_k"] [some 1,none] rfl rfl rfl (cA rfl m_range (aj aA ao)) rfl (by decide +kernel) (by decide +kernel) (by decide +kernel) (by decide +kernel) (hg:=fun cl C s H ex pn E=>(aO (i:=1) (by decide +kernel:(["_law_letters", "_law_k"]:List Str).Nodup) rfl (Or.inl rfl))) (ht:=fun cl C s H ex pn E=>cD) (he:=fun cl C s H ex pn E=>(aX bM (aY gU (pv 0) (aX fU (pv 1) aA) (fun _ _=>rfl)) (aX jr (aY gU (pv 0) (aX iI (pv 1) aA) (fun _ _=>rfl)) (aX fU (pv 1) aA)))))))
   bH)
  (au (dJ (aZ iT (pv 3) aA (bF _))
   (aD (aV (cM ["_law_pot_here", "_law_letters", "_law_turn", "_law_way", "_law_at", "_law_ahead", "_law_behind"] (aC lG) ["_law_letters", "_law_k"] [some 1,none] rfl rfl rfl (cA rfl m_range (aj aA ao)) rfl (by decide +kernel) (by decide +kernel) (by decide +kernel) (by decide +kernel) (hg:=fun cl C s H ex pn E=>(aO (i:=1) (by decide +kernel:(["_law_letters", "_law_k"]:List Str).Nodup) rfl (Or.inl rfl))) (ht:=fun cl C s H ex pn E=>cD) (he:=fun cl C s H ex pn E=>(aX jr (aY gU (pv 0) (aX iI (pv 1) aA) (fun _ _=>rfl)) (aX dj aA (aX fU (pv 1) aA)))))))
   bH)
  (au (aH (i:=4) gC.nd rfl (Or.inl rfl) (aK C_next hr (by decide) rfl (aj (pv 0) (aj aA ao))))
  (au (Bl (cB (aj (aX jr (aY gU (pv 1) aA (fun _ _=>rfl)) (pv 4)) (aj (aX jr (aY gU (pv 1) aA (fun _ _=>rfl)) (aX uX aA (pv 4))) ao))) (uD (n:=2) rfl (bR (aO (i:=5) gC.nd rfl (Or.inr rfl)) (bR (aO (i:=6) gC.nd rfl (Or.inr rfl)) kI))))
  (aD (aV (cM ["_law_pot_here", "_law_letters", "_law_turn", "_law_way", "_law_at", "_law_ahead", "_law_behind"] (aC lG) ["_law_letters", "_law_ahead", "_law_behind", "_law_k"] [some 1,some 5,some 6,none] rfl rfl rfl (cA rfl m_range (aj aA ao)) rfl (by decide +kernel) (by decide +kernel) (by decide +kernel) (by decide +kernel) (hg:=fun cl C s H ex pn E=>(aO (i:=3) (by decide +kernel:(["_law_letters", "_law_ahead", "_law_behind", "_law_k"]:List Str).Nodup) rfl (Or.inl rfl))) (ht:=fun cl C s H ex pn E=>cD) (he:=fun cl C s H ex pn E=>(aX bM (aX bM (aX bM (pv 1) (aY gU (pv 0) (aX fU (pv 3) aA) (fun _ _=>rfl))) (aY gU (pv 0) (aX iI (pv 3) aA) (fun _ _=>rfl))) (pv 2)))))))))))))),?_⟩
 refine jO (σ:=[some (.ref d),some (.str LET),none,none,none,none,none]) (i:=0) (m:=26) rfl hp (by decide) (by decide) fun r H1 r0 r1 p1 o1=>?_
 obtain ⟨t,rfl⟩:=Int.eq_ofNat_of_zero_le r0
 have ht:t < 26:=by omega
 refine ⟨_,rfl,_,rfl,_,rfl,LET,rfl,small (by rw [uf]; decide),_,rfl,_,rfl,_,rfl,LET,rfl,small (by rw [uf]; decide),_,_,rfl,rfl,?_,?_⟩
 ·exact small (Nat.le_trans (Nat.add_le_add (Txt.slice_le _ _ _) (Txt.slice_le _ _ _)) (by rw [uf]; decide))
 rw [wM ht]
 have hL:(Dw t).length≤sizeLine:=small (by rw [DQ]; decide)
 refine jO (σ:=[some (.ref d),some (.str (Dw t)),some (.int (t:Nat)),none,none,none,none]) (i:=0) (m:=3) rfl p1 (by decide) (by decide) fun r2 H2 q0 q1 p2 o2=>?_
 have o12:=o1.trans o2
 refine ⟨_,rfl,rfl,_,rfl,?_⟩
 refine gR (fun z=>?_) (fun z=>?_)
 ·refine ⟨70,rfl,by omega,by omega,fun lc hlc=>?_⟩
  have hcH:H lc=none:=o12.none hp p2 hlc
  refine fu (J:=Itr 0 70) (l:=lc) 70 (fun i σ' H'=>∃ (v:Option V),σ'=[some (.str (Dw t)),v]∧H'=upd H2 lc (.lst (((List.range i).map (nm0 t)).map mkT))) ⟨none,rfl,rfl⟩ ?_ ?_
  ·rintro σ' H' ⟨v,rfl,rfl⟩
   exact ⟨Nat.le_refl _,k lc _ _ hcH ak (Qy t) (p2.new hlc) (o12.new hlc)⟩
  ·rintro i σ' H' hi ⟨v,rfl,rfl⟩
   refine ⟨hi,?_⟩
   rintro y H'' ⟨rfl,rfl⟩
   refine gN (xR (oX ?_))
   refine ⟨_,rfl,_,rfl,_,_,rfl,rfl,by show (0:Int) < 26; decide,_,_,_,rfl,rfl,hL,iB (i:=i % 26) (by omega) (by omega),?_⟩
   refine ⟨_,rfl,_,rfl,_,_,rfl,rfl,by show (0:Int) < 26∧_; decide,_,_,_,rfl,rfl,hL,iB (i:=i / 26) (by omega) (by omega),?_⟩
   refine ⟨_,rfl,_,_,rfl,rfl,by show (0:Int) < 7; decide,[ltr t (i / 26)],i % 7,rfl,congrArg V.int (by omega),by omega,by simp; omega,?_⟩
   rw [rep1]
   refine ⟨⟨[ltr t (i % 26)].toArray⟩,_,rfl,rfl,small (by rw [jD,jD,List.length_replicate]; simp; omega),?_⟩
   rw [pY]
   refine ⟨_,ak,by rw [List.length_map,List.length_map,List.length_range]; exact aJ (by omega),_,rfl,?_⟩
   rw [gG,← jo]
   rfl
 refine ⟨_,rfl,rfl,_,rfl,?_⟩
 refine gR (fun z1=>?_) (fun z1=>?_)
 ·refine ⟨70,rfl,by omega,by omega,fun lc hlc=>?_⟩
  have hcH:H lc=none:=o12.none hp p2 hlc
  refine fu (J:=Itr 0 70) (l:=lc) 70 (fun i σ' H'=>∃ (v:Option V),σ'=[some (.str (Dw t)),v]∧H'=upd H2 lc (.lst (((List.range i).map (nm1 t)).map mkT))) ⟨none,rfl,rfl⟩ ?_ ?_
  ·rintro σ' H' ⟨v,rfl,rfl⟩
   exact ⟨Nat.le_refl _,k lc _ _ hcH ak (Qt t) (p2.new hlc) (o12.new hlc)⟩
  ·rintro i σ' H' hi ⟨v,rfl,rfl⟩
   refine ⟨hi,?_⟩
   rintro y H'' ⟨rfl,rfl⟩
   refine gN (xR (oX ?_))
   refine ⟨_,rfl,_,rfl,_,_,rfl,rfl,by show (0:Int) < 8∧_; decide,_,_,_,rfl,rfl,hL,iB (i:=i / 8) (by omega) (by omega),?_⟩
   refine ⟨_,rfl,_,_,rfl,rfl,by show (0:Int) < 8; decide,_,_,rfl,rfl,[ltr t (i / 8)],1+i % 8,rfl,congrArg V.int (by omega),by omega,by simp; omega,?_⟩
   rw [rep1]
   refine ⟨_,ak,by rw [List.length_map,List.length_map,List.length_range]; exact aJ (by omega),_,rfl,?_⟩
   rw [gG,← jo]
   rfl
 refine jO (σ:=[some (.ref d),some (.str (Dw t)),some (.int (t:Nat)),some (.int r2),none,none,none]) (i:=0) (m:=7) rfl p2 (by decide) (by decide) fun r3 H3 u0 u1 p3 o3=>?_
 obtain ⟨a,rfl⟩:=Int.eq_ofNat_of_zero_le u0
 have ha:a≤6:=by omega
 have o13:=o12.trans o3
 refine ⟨_,rfl,_,_,_,rfl,rfl,hL,iB (i:=25) (by omega) (by omega),_,rfl,[ltr t 25],a,rfl,rfl,by omega,by simp; omega,?_⟩
 rw [rep1]
 refine ⟨_,rfl,_,_,_,rfl,rfl,hL,iB (i:=25) (by omega) (by omega),_,rfl,_,_,rfl,rfl,[ltr t 25],6 - a,rfl,congrArg V.int (by omega),by omega,by simp; omega,?_⟩
 rw [rep1]
 refine ⟨smn 2,fun tp htp=>?_⟩
 have p4:=p3.new (o:=HO.tup [mkT (List.replicate a (ltr t 25)),mkT (List.replicate (6 - a) (ltr t 25))]) htp
 have o14:=o13.new (o:=HO.tup [mkT (List.replicate a (ltr t 25)),mkT (List.replicate (6 - a) (ltr t 25))]) htp
 refine ⟨tp,_,rfl,SqT.of ak,rfl,_,_,rfl,_,_,rfl,rfl,?_⟩
 refine ⟨70,rfl,by omega,by omega,fun lc hlc=>?_⟩
 have hcH:H lc=none:=o14.none hp p4 hlc
 generalize upd H3 tp (.tup [mkT (List.replicate a (ltr t 25)),mkT (List.replicate (6 - a) (ltr t 25))])=H4 at p4 o14 hlc
 refine fu (J:=Itr 0 70) (l:=lc) 70 (fun i σ' H'=>∃ (v:Option V),σ'=[some (.str (Dw t)),some (mkT (List.replicate a (ltr t 25))),some (mkT (List.replicate (6 - a) (ltr t 25))),v]∧H'=upd H4 lc (.lst (((List.range i).map (nm2 t a)).map mkT))) ⟨none,rfl,rfl⟩ ?_ ?_
 ·rintro σ' H' ⟨v,rfl,rfl⟩
  exact ⟨Nat.le_refl _,k lc _ _ hcH ak (row2 ha) (p4.new hlc) (o14.new hlc)⟩
 ·rintro i σ' H' hi ⟨v,rfl,rfl⟩
  refine ⟨hi,?_⟩
  rintro y H'' ⟨rfl,rfl⟩
  refine gN (xR (oX ?_))
  refine ⟨_,rfl,_,rfl,_,rfl,_,_,rfl,rfl,by show (0:Int) < 20; decide,_,_,_,rfl,rfl,hL,iB (i:=i % 20) (by omega) (by omega),?_⟩
  refine ⟨_,⟨[ltr t (i % 20)].toArray⟩,rfl,rfl,small (by rw [jD,jD,List.length_replicate]; simp; omega),?_⟩
  rw [pY]
  refine ⟨_,rfl,_,rfl,_,_,rfl,rfl,by show (0:Int) < 20∧_; decide,_,_,_,rfl,rfl,hL,iB (i:=i / 20) (by omega) (by omega),?_⟩
  refine ⟨_,⟨[ltr t (i / 20)].toArray⟩,rfl,rfl,small (by rw [jD,jD,List.length_append,List.length_replicate]; simp; omega),?_⟩
  rw [pY]
  refine ⟨_,rfl,_,_,rfl,rfl,small (by rw [jD,jD,List.length_append,List.length_append,List.length_replicate,List.length_replicate]; simp; omega),?_⟩
  rw [pY]
  refine ⟨_,ak,by rw [List.length_map,List.length_map,List.length_range]; exact aJ (by omega),_,rfl,?_⟩
  rw [gG,← jo]
  simp only [nm2,List.append_assoc]
  rfl
end
theorem jJ {α β:Type} {f:α→β} {ds es:List β} (h:ds.Perm es):∀ {ks:List α},es=ks.map f→∃ ks':List α,ks'.Perm ks∧ds=ks'.map f:=by
 induction h with
 | nil =>
  intro ks e
  cases ks with
  | nil=>exact ⟨[],.nil,rfl⟩
  | cons=>cases e
 | cons x p ih =>
  intro ks e
  cases ks with
  | nil=>cases e
  | cons k ks =>
   injection e with e1 e2
   obtain ⟨ks',hp,rfl⟩:=ih e2
   exact ⟨k :: ks',hp.cons k,by rw [e1]; rfl⟩
 | swap x y l =>
  intro ks e
  match ks,e with
  | a :: b :: r,e =>
   injection e with e1 e2
   injection e2 with e2 e3
   exact ⟨b :: a :: r,.swap _ _ _,by rw [e1,e2,e3]; rfl⟩
 | trans p q ih1 ih2 =>
  intro ks e
  obtain ⟨ks1,hp1,rfl⟩:=ih2 e
  obtain ⟨ks2,hp2,rfl⟩:=ih1 rfl
  exact ⟨ks2,hp2.trans hp1,rfl⟩
theorem xM {a b:Nms} (h:gq a=gq b):a=b:=by
 unfold gq at h
 injection h with h
 have:=congrArg (List.map unD) h
 rwa [oK,oK] at this
theorem zG {a b:Lnk} (h:bY a=bY b):a.1=b.1:=by
 unfold bY at h
 injection h with h
 injection h with h _
 exact xM h
theorem Hh (ks:List Lnk):aU 0 ks=ks.flatMap (·.1):=rfl
theorem rG {ks:List Lnk} (hu:UpD (ks.map bY)) (hn:(aU 0 ks).Nodup) (hg:∀ k∈ks,n8 k):ks.Pairwise fun a b=>dlt (bY a) (bY b)=true:=by
 unfold UpD at hu
 rw [List.pairwise_map] at hu
 rw [Hh,List.nodup_iff_pairwise_ne,List.pairwise_flatMap] at hn
 refine List.Pairwise.imp₂ (fun a b h1 h2=>?_) hu (hn.2.imp_of_mem (S:=fun a b=>bY a≠bY b) fun {a b} ha hb h e=>?_)
 ·cases h:dlt (bY a) (bY b) with
  | true=>rfl
  | false=>exact absurd (ju _ _ h h1) h2
 ·have e1:=zG e
  have hne:=(hg a ha).2.2.1
  cases hc:a.1 with
  | nil=>exact hne hc
  | cons x r=>exact h x (by rw [hc]; exact .head _) x (by rw [← e1,hc]; exact .head _) rfl
theorem lA {ks ks':List Lnk} (n:Nat) (h:ks'.Perm ks):(aU n ks').Perm (aU n ks):=h.flatMap_right _
theorem lZ (n:Nat) (ks:List Lnk) (k:Lnk):aU n (ks++[k])=aU n ks++qt n k:=by
 unfold aU
 rw [List.flatMap_append]
 simp
theorem Fd {L R:List Prt} {ks ks':List Lnk} {r0 r1 al al0:Nms} (hL:L.length≤12) (hR:R.length≤12) (hg:∀ p∈L++R,tV p) (hnd:((L++R).map (·.1)).Nodup) (hk:∀ k∈ks,n8 k) (hkl:ks.length≤12) (h0:(L.map (·.1)).Perm (aU 0 ks++r0)) (h1:(R.map (·.1)).Perm (aU 1 ks++r1)) (hp:ks'.Perm ks) (hu:UpD (ks'.map bY)) (hal:al0.Sublist (r0++r1)) (hpa:al.Perm al0) (hua:UpD (al.map sD)):Er L R ks' al:=by
 have hsub:∀ x∈al,x∈r0++r1:=fun x hx=>hal.subset (hpa.mem_iff.mp hx)
 have q0:=lA 0 hp
 have q1:=lA 1 hp
 have hbig:((aU 0 ks'++aU 1 ks')++(r0++r1)).Nodup:=by
  have:((L++R).map (·.1)).Perm ((aU 0 ks'++aU 1 ks')++(r0++r1)):=by
   rw [List.map_append]
   refine (h0.append h1).trans ?_
   rw [List.append_assoc,List.append_assoc]
   refine (q0.symm.append ?_)
   refine (List.perm_append_comm_assoc _ _ _).trans ?_
   exact q1.symm.append (List.Perm.refl _)
  exact this.nodup_iff.mp hnd
 have hnd2:(aU 0 ks'++aU 1 ks'++al).Nodup:=by
  have s:((aU 0 ks'++aU 1 ks')++al0).Sublist ((aU 0 ks'++aU 1 ks')++(r0++r1)):=(List.Sublist.refl _).append hal
  exact ((hpa.append_left (aU 0 ks'++aU 1 ks')).nodup_iff).mpr (hbig.sublist s)
 have ndl:(aU 0 ks').Nodup:=(hnd2.sublist (List.sublist_append_left _ _)).sublist (List.sublist_append_left _ _)
 have nda:al.Nodup:=hnd2.sublist (List.sublist_append_right _ _)
 have hk':∀ k∈ks',n8 k:=fun k hk'=>hk k (hp.mem_iff.mp hk')
 have inL:∀ x∈aU 0 ks',x∈L.map (·.1):=fun x hx=>h0.mem_iff.mpr (List.mem_append_left _ (q0.mem_iff.mp hx))
 have inR:∀ x∈aU 1 ks',x∈R.map (·.1):=fun x hx=>h1.mem_iff.mpr (List.mem_append_left _ (q1.mem_iff.mp hx))
 have inA:∀ x∈al,x∈(L++R).map (·.1):=fun x hx=>by
  rw [List.map_append]
  rcases List.mem_append.mp (hsub x hx) with z | z
  ·exact List.mem_append_left _ (h0.mem_iff.mpr (List.mem_append_right _ z))
  ·exact List.mem_append_right _ (h1.mem_iff.mpr (List.mem_append_right _ z))
 have len0:(L.map (·.1)).length=(aU 0 ks).length+r0.length:=by rw [h0.length_eq,List.length_append]
 have len1:(R.map (·.1)).length=(aU 1 ks).length+r1.length:=by rw [h1.length_eq,List.length_append]
 have lena:al.length≤r0.length+r1.length:=by
  rw [hpa.length_eq,← List.length_append]
  exact hal.length_le
 rw [List.length_map] at len0 len1
 refine ⟨hg,hnd,by omega,by omega,hk',rG hu ndl hk',by rw [hp.length_eq]; omega,⟨fun x hx=>?_,qX hua nda,by omega⟩,inL,inR,hnd2,?_,inA⟩
 ·obtain ⟨p,hp',rfl⟩:=List.mem_map.mp (inA x hx)
  exact (hg p hp').1
 ·rw [List.length_append,List.length_append,q0.length_eq,q1.length_eq]
  omega
theorem qK (ks:List Lnk):Hom (ks.map bY):=by
 refine ⟨fun a ha b hb=>?_,.inr (.inr fun d hd=>?_)⟩
 ·obtain ⟨x,_,rfl⟩:=List.mem_map.mp ha
  obtain ⟨y,_,rfl⟩:=List.mem_map.mp hb
  exact Ea _ _
 ·obtain ⟨x,_,rfl⟩:=List.mem_map.mp hd
  exact ⟨_,_,rfl⟩
def zQ:Sp:=fun vs H Q _=>∃ (d lo:Addr) (v:V) (L R:List Prt),vs=[.ref d,v]∧bB d lo H∧Den H v (.tup [.tup (L.map bw),.tup (R.map bw)])∧L.length≤12∧R.length≤12∧(∀ p∈L++R,tV p)∧((L++R).map (·.1)).Nodup ∧
 ∀ (q a b:Addr) (ks:List Lnk) (al:Nms) (H':Hp),H' q=some (.tup [.ref a,.ref b])→Den H' (.ref a) (.tup (ks.map bY))→Den H' (.ref b) (gq al)→Er L R ks al→bB d lo H'→Old d lo H H'→Q (.ref q) H'
theorem Gm {b:Bool} {p q:Prop} (h:b=true) (x:p):if b=true then p else q:=by
 rw [if_pos h]
 exact x
theorem same_none {H H':Hp} {b:Addr} (s:Same H H') (h:H' b=none):H b=none:=by
 cases e:H b with
 | none=>rfl
 | some o =>
  have:=s b o e
  rw [h] at this
  cases this
theorem yr (L:List Prt):bG L=(L.map (·.1)).map mkT:=by
 unfold bG
 rw [List.map_map]
 rfl
section
variable {P:Program} {w:World} {K:PySem.W.Frag} {mg:Str→Option Value} {base:Heap}
theorem gA:aQ ["_law_pot_here", "_law_sides_here", "_law_left", "_law_links", "_law_k", "_law_ones", "_law_others", "_law_lost", "_law_alone"] ["_law_pot_here", "_law_sides_here"] (aC mU):=⟨rfl,rfl,rfl,by decide +kernel,rfl,by decide +kernel,by decide +kernel⟩
theorem HY (h:Has K mg "_law_stood" mU ["_law_pot_here", "_law_sides_here"]) (C_count:Cal P w K mg base "_law_count" 2 ["_law_pot_here", "_law_most"] nQ) (C_some:Cal P w K mg base "_law_some" 3 ["_law_pot_here", "_law_names_here", "_law_most"] Gv) (C_moments:Cal P w K mg base "_law_moments" 2 ["_law_pot_here", "_law_many"] iY) (C_next:Cal P w K mg base "_law_next" 1 ["_law_pot_here", "_law_many"] gY) (m_range:mg "range" = none) (m_tuple:mg "tuple" = none) (m_sorted:mg "sorted" = none):Cal P w K mg base "_law_stood" 4 ["_law_pot_here", "_law_sides_here"] zQ:=by
 refine h.mk' gA (fun vs H Q E hs=>?_) (fun f cdv A outer s H vs Q E hr hs=>?_)
 ·obtain ⟨d,lo,v,L,R,rfl,_⟩:=hs
  rfl
 obtain ⟨d,lo,v,L,R,rfl,hp,hv,hL,hR,hg,hnd,k⟩:=hs
 refine ⟨_,(au (ug (ix:=2) gA.nd rfl rfl ["_law_pot_here", "_law_sides_here", "_law_left", "_law_links", "_law_k", "_law_ones", "_law_others", "_law_lost", "_law_alone"] (aC mU) ["_law_side_here"] [none] rfl rfl rfl (fO (pv 1)) rfl (by decide +kernel) (by decide +kernel) (by decide +kernel) (by decide +kernel) (hg:=fun cl C s H ex pn E=>(aO (i:=0) (by decide +kernel:(["_law_side_here"]:List Str).Nodup) rfl (Or.inl rfl))) (ht:=fun cl C s H ex pn E=>cD) (he:=fun cl C s H ex pn E=>(cM ["_law_side_here"] _ ["_law_part"] [none] rfl rfl rfl (Ab (K:=K) rfl (pv 0)) rfl (by decide +kernel) (by decide +kernel) (GC (by decide +kernel)) (by decide +kernel) (hg:=fun cl C s H ex pn E=>(aO (i:=0) (by decide +kernel:(["_law_part"]:List Str).Nodup) rfl (Or.inl rfl))) (ht:=fun cl C s H ex pn E=>cD) (he:=fun cl C s H ex pn E=>(aY (nR (K:=K) rfl) (pv 0) aA (fun _ _=>rfl))))))
  (au (aH (i:=3) gA.nd rfl (Or.inl rfl) (bV ao))
  (au (dB PassesOwn.never rfl (cA rfl m_range (aj (aK C_count hr (by decide) rfl (aj (pv 0) (aj aA ao))) ao)) (aO (i:=4) gA.nd rfl (Or.inl rfl))
   (aD (dJ (PW.pt (vA (aZ (Cm hr.units0) (aY bQ (pv 2) aA (fun _ _=>rfl)) (bV ao) (bF _)) (pI (aZ (Cm hr.units0) (aY bQ (pv 2) aA (fun _ _=>rfl)) (bV ao) (bF _)))))
   (au (aH (i:=5) gA.nd rfl (Or.inl rfl) (aK C_some hr (by decide) rfl (aj (pv 0) (aj (aY bQ (pv 2) aA (fun _ _=>rfl)) (aj aA ao)))))
  (au (aH (i:=6) gA.nd rfl (Or.inl rfl) (aK C_some hr (by decide) rfl (aj (pv 0) (aj (aY bQ (pv 2) aA (fun _ _=>rfl)) (aj aA ao)))))
  (au (aH (i:=7) gA.nd rfl (Or.inl rfl) (cB (aj (aK C_moments hr (by decide) rfl (aj (pv 0) (aj (aK C_next hr (by decide) rfl (aj (pv 0) (aj aA ao))) ao))) (aj (aK C_moments hr (by decide) rfl (aj (pv 0) (aj (aK C_next hr (by decide) rfl (aj (pv 0) (aj aA ao))) ao))) ao))))
  (aD (dO (gB PySem.F.plainAttrs_list PySem.F.slot_list_append PySem.F.type_list_append bN (pv 3) (aj (cB (aj (pv 5) (aj (pv 6) (aj (aY bC (aK C_moments hr (by decide) rfl (aj (pv 0) (aj aA ao))) aA (fun _ _=>rfl)) (aj (pv 7) ao))))) ao)))))))
   bH)))
  (au (ug (ix:=8) gA.nd rfl rfl ["_law_pot_here", "_law_sides_here", "_law_left", "_law_links", "_law_k", "_law_ones", "_law_others", "_law_lost", "_law_alone"] (aC mU) ["_law_pot_here", "_law_name"] [some 0,none] rfl rfl rfl (jw (aX lW (aY bQ (pv 2) aA (fun _ _=>rfl)) (aY bQ (pv 2) aA (fun _ _=>rfl)))) rfl (by decide +kernel) (by decide +kernel) (by decide +kernel) (by decide +kernel) (hg:=fun cl C s H ex pn E=>(aO (i:=1) (by decide +kernel:(["_law_pot_here", "_law_name"]:List Str).Nodup) rfl (Or.inl rfl))) (ht:=fun cl C s H ex pn E=>(u6 (aZ iT (aK C_next hr (by decide) rfl (aj (pv 0) (aj aA ao))) aA (bF _)))) (he:=fun cl C s H ex pn E=>(pv 1)))
  (aD (aV (cB (aj (aM aL rfl m_tuple boot_tuple (aj (aP (bZ hr.units) rfl m_sorted boot_sorted (aj (pv 3) ao)) ao)) (aj (aM aL rfl m_tuple boot_tuple (aj (aP (bZ hr.units) rfl m_sorted boot_sorted (aj (pv 8) ao)) ao)) ao))))))))),?_⟩
 obtain ⟨p,us,rfl,ep,hd⟩:=aN hv
 obtain ⟨b0,b1,rfl⟩:∃ b0 b1,us=[b0,b1]:=by
  match us,hd with
  | [b0,b1],_=>exact ⟨b0,b1,rfl⟩
  | [],h=>exact h.elim
  | [_],h=>exact h.2.elim
  | _ :: _ :: _ :: _,h=>exact h.2.2.elim
 obtain ⟨pl,ls,rfl,hpl,hdl⟩:=aN hd.1
 obtain ⟨pr,rs,rfl,hpr,hdr⟩:=aN hd.2.1
 refine ⟨_,rfl,p,rfl,⟨_,SqT.of ep⟩,fun la hla=>?_⟩
 refine fu (J:=Itt K p) (l:=la) 2 (fun i σ' H'=>∃ (v:Option V) (as:List Addr),σ'=[v]∧H' la=some (.lst (as.map V.ref))∧Same H H'∧as.length=i∧as.Nodup∧(∀ l∈as,H l=none∧l≠la)∧∀ (j:Nat) (l:Addr) (qs:List Prt),as[j]?=some l→[L,R][j]?=some qs→H' l=some (.lst (bG qs))) ⟨none,[],rfl,ak,aq hla _,rfl,.nil,(fun l h=>by cases h),(fun j l qs h=>by simp at h)⟩ ?_ ?_
 ·rintro σ' H1 ⟨v,as,rfl,ea,s1,hal,hand,hfr,hat⟩
  obtain ⟨l0,l1,rfl⟩:∃ l0 l1,as=[l0,l1]:=by
   match as,hal with
   | [l0,l1],_=>exact ⟨l0,l1,rfl⟩
  have e0:H1 l0=some (.lst ((L.map (·.1)).map mkT)):=by rw [← yr]; exact hat 0 l0 L rfl rfl
  have e1:H1 l1=some (.lst ((R.map (·.1)).map mkT)):=by rw [← yr]; exact hat 1 l1 R rfl rfl
  obtain ⟨f0,n0a⟩:=hfr l0 (.head _)
  obtain ⟨f1,n1a⟩:=hfr l1 (.tail _ (.head _))
  have n01:l0≠l1:=by
   intro z
   subst z
   simp at hand
  refine ⟨⟨_,SqT.of (s1 _ _ ep),Nat.le_refl _⟩,?_⟩
  have o1:Old d lo H H1:=Old.of s1
  have p1:=hp.same s1
  obtain ⟨n0d,n0l⟩:=hp.ne f0
  obtain ⟨n1d,n1l⟩:=hp.ne f1
  obtain ⟨nad,nal⟩:=hp.ne hla
  have at0:atI [V.ref l0,V.ref l1] 0=some (.ref l0):=bx _ _
  have at1:atI [V.ref l0,V.ref l1] 1=some (.ref l1):=aW (xs:=[V.ref l0,V.ref l1]) (j:=1) rfl
  have hndL:(L.map (·.1)).Nodup:=by rw [List.map_append] at hnd; exact hnd.sublist (List.sublist_append_left _ _)
  have hndR:(R.map (·.1)).Nodup:=by rw [List.map_append] at hnd; exact hnd.sublist (List.sublist_append_right _ _)
  have nmL:∀ x∈L.map (·.1),isNm ⟨x.toArray⟩=true:=fun x hx=>by
   obtain ⟨q,hq,rfl⟩:=List.mem_map.mp hx
   exact (hg q (List.mem_append_left _ hq)).1
  have nmR:∀ x∈R.map (·.1),isNm ⟨x.toArray⟩=true:=fun x hx=>by
   obtain ⟨q,hq,rfl⟩:=List.mem_map.mp hx
   exact (hg q (List.mem_append_right _ hq)).1
  refine gN ⟨smn 0,fun lk hlk=>?_⟩
  have s2:=aq hlk (.lst [])
  obtain ⟨nkd,nkl⟩:=p1.ne hlk
  have nka:lk≠la:=(aB ea hlk).symm
  have nk0:lk≠l0:=(aB e0 hlk).symm
  have nk1:lk≠l1:=(aB e1 hlk).symm
  have hlkH:H lk=none:=same_none s1 hlk
  refine ⟨_,rfl,d,lo,3,rfl,p1.same s2,by decide,by decide,fun r H3 r0 r1 p3 o3=>?_⟩
  refine ⟨r,rfl,by omega,by omega,?_⟩
  refine eE (lo:=0) (n:=r.toNat) (fun j σ H4=>∃ (v4 v5 v6 v7:Option V) (us:List V) (ks:List Lnk) (ra rb:Nms),σ=[some (.ref d),some (.ref p),some (.ref la),some (.ref lk),v4,v5,v6,v7,none]∧bB d lo H4∧H4 la=some (.lst [.ref l0,.ref l1])∧H4 l0=some (.lst (ra.map mkT))∧H4 l1=some (.lst (rb.map mkT))∧H4 lk=some (.lst us)∧bI H4 us (ks.map bY)∧ks.length≤j∧(∀ q∈ks,n8 q)∧(L.map (·.1)).Perm (aU 0 ks++ra)∧(R.map (·.1)).Perm (aU 1 ks++rb)∧Old d lo H H4)
   ⟨none,none,none,none,[],[],L.map (·.1),R.map (·.1),rfl,p3,o3 la _ (s2 _ _ ea) nad nal,o3 l0 _ (s2 _ _ e0) n0d n0l,o3 l1 _ (s2 _ _ e1) n1d n1l,o3 lk _ ak nkd nkl,trivial,Nat.le_refl _,(fun q h=>by cases h),List.Perm.refl _,List.Perm.refl _,(o1.trans (Old.of s2)).trans o3⟩ ?_ ?_
  ·rintro j σ H4 hj ⟨v4,v5,v6,v7,us,ks,ra,rb,rfl,p4,e4a,e40,e41,e4k,dn4,hks,hkg,pm0,pm1,o4⟩
   have hj12:j < 12:=by omega
   refine gN ⟨_,rfl,la,_,0,_,rfl,rfl,SqL.of e4a,at0,smn 0,fun b hb=>?_⟩
   have s5:=aq hb (.lst [])
   refine ⟨l0,b,_,rfl,rfl,s5 _ _ e40,ak,_,rfl,?_⟩
   have oth:∀ {H5:Hp},Same H4 H5→∃ (v4' v5' v6' v7':Option V) (us:List V) (ks:List Lnk) (ra rb:Nms),[some (V.ref d),some (.ref p),some (.ref la),some (.ref lk),some (.int (0+(j:Int))),v5,v6,v7,none]=[some (.ref d),some (.ref p),some (.ref la),some (.ref lk),v4',v5',v6',v7',none]∧bB d lo H5∧H5 la=some (.lst [.ref l0,.ref l1])∧H5 l0=some (.lst (ra.map mkT))∧H5 l1=some (.lst (rb.map mkT))∧H5 lk=some (.lst us)∧bI H5 us (ks.map bY)∧ks.length≤j+1∧(∀ q∈ks,n8 q)∧(L.map (·.1)).Perm (aU 0 ks++ra)∧(R.map (·.1)).Perm (aU 1 ks++rb)∧Old d lo H H5 :=
    fun {H5} s=>⟨_,_,_,_,us,ks,ra,rb,rfl,p4.same s,s _ _ e4a,s _ _ e40,s _ _ e41,s _ _ e4k,dn4.same s,by omega,hkg,pm0,pm1,o4.trans (Old.of s)⟩
   by_cases hra:ra=[]
   ·subst hra
    exact xQ (oth s5)
   refine Gm (by cases ra with | nil=>exact absurd rfl hra | cons=>rfl) ?_
   refine ⟨_,rfl,la,_,1,_,rfl,rfl,SqL.of (s5 _ _ e4a),at1,smn 0,fun b6 hb6=>?_⟩
   have s6:=s5.trans (aq hb6 (.lst []))
   refine ⟨l1,b6,_,rfl,rfl,s6 _ _ e41,ak,_,rfl,?_⟩
   by_cases hrb:rb=[]
   ·subst hrb
    exact xQ (oth s6)
   refine Gm (by cases rb with | nil=>exact absurd rfl hrb | cons=>rfl) ?_
   generalize upd (upd H4 b (.lst [])) b6 (.lst [])=H6 at s6
   have ndra:ra.Nodup:=(pm0.nodup_iff.mp hndL).sublist (List.sublist_append_right _ _)
   have ndrb:rb.Nodup:=(pm1.nodup_iff.mp hndR).sublist (List.sublist_append_right _ _)
   have lena:ra.length≤12:=by
    have:=pm0.length_eq
    rw [List.length_map,List.length_append] at this
    omega
   have lenb:rb.length≤12:=by
    have:=pm1.length_eq
    rw [List.length_map,List.length_append] at this
    omega
   have p6:=p4.same s6
   have e60:=s6 _ _ e40
   have e61:=s6 _ _ e41
   have e6a:=s6 _ _ e4a
   have e6k:=s6 _ _ e4k
   refine gN ⟨_,rfl,_,rfl,la,_,0,_,rfl,rfl,SqL.of e6a,at0,d,lo,l0,ra,3,rfl,p6,e60,n0d,n0l,hra,by omega,ndra,fun x hx=>nmL x (pm0.mem_iff.mpr (List.mem_append_right _ hx)),by decide,by decide,fun q7 ns7 ra7 H7 e7q g7 ne7 ln7 pm7 e70 p7 o7=>?_⟩
   have k7:=kj p6 e60 o7
   have e71:H7 l1=_:=o7 l1 _ e61 n1d n1l n01.symm
   have e7a:H7 la=_:=o7 la _ e6a nad nal n0a.symm
   have e7k:H7 lk=_:=o7 lk _ e6k nkd nkl nk0
   refine gN ⟨_,rfl,_,rfl,la,_,1,_,rfl,rfl,SqL.of e7a,at1,d,lo,l1,rb,3,rfl,p7,e71,n1d,n1l,hrb,by omega,ndrb,fun x hx=>nmR x (pm1.mem_iff.mpr (List.mem_append_right _ hx)),by decide,by decide,fun q8 ns8 rb8 H8 e8q g8 ne8 ln8 pm8 e81 p8 o8=>?_⟩
   have k8:=kj p7 e71 o8
   have e80:H8 l0=_:=o8 l0 _ e70 n0d n0l n01
   have e8a:H8 la=_:=o8 la _ e7a nad nal n1a.symm
   have e8k:H8 lk=_:=o8 lk _ e7k nkd nkl nk1
   refine gN ⟨_,rfl,?_⟩
   refine jO (σ:=[some (.ref d),some (.ref p),some (.ref la),some (.ref lk),some (.int (0+(j:Int))),some (.ref q7),some (.ref q8),v7,none]) (i:=0) (m:=3) rfl p8 (by decide) (by decide) fun r9 H9 c0 c1 p9 o9=>?_
   obtain ⟨m9,rfl⟩:=Int.eq_ofNat_of_zero_le c0
   refine ⟨d,lo,m9,rfl,p9,by omega,fun q10 ms10 H10 e10q g10 hl10 p10 o10=>?_⟩
   refine ⟨_,rfl,?_⟩
   refine jO (σ:=[some (.ref d),some (.ref p),some (.ref la),some (.ref lk),some (.int (0+(j:Int))),some (.ref q7),some (.ref q8),v7,none]) (i:=0) (m:=3) rfl p10 (by decide) (by decide) fun r11 H11 c2 c3 p11 o11=>?_
   obtain ⟨m11,rfl⟩:=Int.eq_ofNat_of_zero_le c2
   refine ⟨d,lo,m11,rfl,p11,by omega,fun q12 ms12 H12 e12q g12 hl12 p12 o12=>?_⟩
   refine ⟨smn 2,fun tl htl=>?_⟩
   have oB:Old d lo H8 H12:=((o9.trans o10).trans o11).trans o12
   have kB:=cP p8 oB
   have kC:=cP p10 (o11.trans o12)
   have s13:=aq htl (.tup [.ref q10,.ref q12])
   have e13t:(upd H12 tl (.tup [.ref q10,.ref q12])) tl=some (.tup [.ref q10,.ref q12]):=ak
   have p13:=p12.same s13
   have oC:Old d lo H8 (upd H12 tl (.tup [.ref q10,.ref q12])):=oB.trans (Old.of s13)
   generalize upd H12 tl (.tup [.ref q10,.ref q12])=H13 at s13 e13t p13 oC
   have e13k:H13 lk=_:=oC lk _ e8k nkd nkl
   refine gN ⟨_,rfl,.inl ⟨rfl,_,SqL.of e13k⟩,_,rfl,_,rfl,_,rfl,d,lo,1,rfl,p13,by decide,fun q14 ms14 H14 e14q g14 hl14 p14 o14=>?_⟩
   obtain ⟨mm,rfl⟩:∃ mm,ms14=[mm]:=by
    match ms14,hl14 with
    | [mm],_=>exact ⟨mm,rfl⟩
   refine ⟨q14,_,0,_,rfl,rfl,SqT.of e14q,bx _ _,_,rfl,smn 4,fun tq htq=>?_⟩
   have oD:=oC.trans o14
   have k14:=cP p13 o14
   have s15:=aq htq (.tup [.ref q7,.ref q8,.int mm,.ref tl])
   have e15t:(upd H14 tq (.tup [.ref q7,.ref q8,.int mm,.ref tl])) tq=some (.tup [.ref q7,.ref q8,.int mm,.ref tl]):=ak
   have p15:=p14.same s15
   have oE:Old d lo H8 (upd H14 tq (.tup [.ref q7,.ref q8,.int mm,.ref tl])):=oD.trans (Old.of s15)
   have kE:=cP p8 oE
   have kF:∀ (b:Addr) (vs:List V),H12 b=some (.tup vs)→(upd H14 tq (.tup [.ref q7,.ref q8,.int mm,.ref tl])) b=some (.tup vs):=fun b vs e=>s15 _ _ (k14 _ _ (s13 _ _ e))
   have e15l:(upd H14 tq (.tup [.ref q7,.ref q8,.int mm,.ref tl])) tl=some (.tup [.ref q10,.ref q12]):=s15 _ _ (k14 _ _ e13t)
   generalize upd H14 tq (.tup [.ref q7,.ref q8,.int mm,.ref tl])=H15 at s15 e15t p15 oE kE kF e15l
   have e15k:H15 lk=_:=oE lk _ e8k nkd nkl
   have e150:H15 l0=_:=oE l0 _ e80 n0d n0l
   have e151:H15 l1=_:=oE l1 _ e81 n1d n1l
   have e15a:H15 la=_:=oE la _ e8a nad nal
   have kA:∀ (b:Addr) (vs:List V),H4 b=some (.tup vs)→H15 b=some (.tup vs):=fun b vs e=>kE _ _ (k8 _ _ (k7 _ _ (s6 _ _ e)))
   have kT:=iR (zs:=us++[.ref tq]) e15k
   have dq:Den H15 (.ref tq) (bY (ns7,ns8,mm,ms10,ms12)):=by
    refine ⟨tq,_,rfl,e15t,⟨q7,_,rfl,kE _ _ (k8 _ _ e7q),cO _ ns7⟩,⟨q8,_,rfl,kE _ _ e8q,cO _ ns8⟩,rfl,⟨tl,_,rfl,e15l,⟨q10,_,rfl,kF _ _ (kC _ _ e10q),fG _ ms10⟩,⟨q12,_,rfl,kF _ _ e12q,fG _ ms12⟩,trivial⟩,trivial⟩
   refine ⟨lk,us,_,rfl,rfl,e15k,?_,?_⟩
   ·have:=dn4.len
    rw [List.length_map] at this
    exact aJ (by omega)
   refine ⟨_,_,_,_,us++[.ref tq],ks++[(ns7,ns8,mm,ms10,ms12)],ra7,rb8,rfl,p15.upd nkd nkl,(aF nka.symm).trans e15a,(aF nk0.symm).trans e150,(aF nk1.symm).trans e151,ak,?_,by rw [List.length_append,List.length_singleton]; omega,fun q hq=>?_,?_,?_,?_⟩
   ·rw [List.map_append]
    exact bI.snoc (Den.keepT kT dq) ((dn4.keepT kA).keepT kT)
   ·rcases List.mem_append.mp hq with z | z
    ·exact hkg q z
    ·rw [List.mem_singleton.mp z]
     exact ⟨g7,g8,ne7,ne8,(g14.1 mm (.head _)).1,(g14.1 mm (.head _)).2,g10,g12⟩
   ·rw [lZ,List.append_assoc]
    exact pm0.trans (pm7.append_left _)
   ·rw [lZ,List.append_assoc]
    exact pm1.trans (pm8.append_left _)
   ·have oF:Old d lo H H6:=o4.trans (Old.of s6)
    have oG:Old d lo H H7:=fun c o e h1 h2=>o7 c o (oF c o e h1 h2) h1 h2 (aB e f0)
    have oH:Old d lo H H8:=fun c o e h1 h2=>o8 c o (oG c o e h1 h2) h1 h2 (aB e f1)
    exact (oH.trans oE).free hlkH
  ·rintro σ H4 ⟨v4,v5,v6,v7,us,ks,ra,rb,rfl,p4,e4a,e40,e41,e4k,dn4,hks,hkg,pm0,pm1,o4⟩
   have lena:ra.length≤12:=by
    have:=pm0.length_eq
    rw [List.length_map,List.length_append] at this
    omega
   have lenb:rb.length≤12:=by
    have:=pm1.length_eq
    rw [List.length_map,List.length_append] at this
    omega
   refine ⟨_,rfl,la,_,0,_,rfl,rfl,SqL.of e4a,at0,_,rfl,la,_,1,_,rfl,rfl,SqL.of e4a,at1,l0,l1,_,_,rfl,rfl,e40,e41,by rw [List.length_map,List.length_map]; exact small (by omega),fun lq hlq=>?_⟩
   rw [← List.map_append]
   have s5:=aq hlq (.lst ((ra++rb).map mkT))
   have e5q:(upd H4 lq (.lst ((ra++rb).map mkT))) lq=some (.lst ((ra++rb).map mkT)):=ak
   generalize upd H4 lq (.lst ((ra++rb).map mkT))=H5 at s5 e5q
   refine ⟨lq,rfl,⟨_,SqL.of e5q⟩,fun lc hlc=>?_⟩
   have p5:=p4.same s5
   obtain ⟨ncd,ncl⟩:=p5.ne hlc
   obtain ⟨nqd,nql⟩:=p4.ne hlq
   have nck:lc≠lk:=(aB (s5 _ _ e4k) hlc).symm
   have ncq:lc≠lq:=(aB e5q hlc).symm
   have hlcH:H lc=none:=(o4.trans (Old.of s5)).none hp p5 hlc
   refine fu (J:=Itl K lq) (l:=lc) ((ra++rb).map mkT).length (fun i σ' H'=>∃ (v:Option V) (al:Nms),σ'=[some (.ref d),v]∧H' lc=some (.lst (al.map mkT))∧H' lq=some (.lst ((ra++rb).map mkT))∧H' lk=some (.lst us)∧bI H' us (ks.map bY)∧al.Sublist ((ra++rb).take i)∧bB d lo H'∧Old d lo H H') ⟨none,[],rfl,ak,aq hlc _ _ _ e5q,aq hlc _ _ _ (s5 _ _ e4k),(dn4.same s5).same (aq hlc _),.slnil,p5.new hlc,(o4.trans (Old.of s5)).new hlc⟩ ?_ ?_
   ·rintro σ' H6 ⟨v,al,rfl,e6c,e6q,e6k,dn6,hsub,p6,o6⟩
    rw [List.length_map,List.take_length] at hsub
    refine ⟨⟨_,SqL.of e6q,Nat.le_refl _⟩,?_⟩
    have lal:al.length≤24:=by
     have:=hsub.length_le
     rw [List.length_append] at this
     omega
    refine gN ⟨_,rfl,lk,us,_,rfl,.inl (SqL.of e6k),dn6,qK ks,by rw [List.length_map]; omega,fun x hx=>?_,fun l7 us7 ds7 hl7 pm7 up7 dn7=>?_⟩
    ·obtain ⟨y,hy,rfl⟩:=List.mem_map.mp hx
     exact show eO 50 _ from dF (n:=3) (mC (hkg y hy)) 47
    obtain ⟨ks7,pk7,rfl⟩:=jJ pm7 rfl
    have s7:=aq hl7 (.lst us7)
    refine ⟨l7,_,rfl,.inl ⟨SqL.of ak,fun q8 hq8=>?_⟩⟩
    have s8:=s7.trans (aq hq8 (.tup us7))
    have e8q:(upd (upd H6 l7 (.lst us7)) q8 (.tup us7)) q8=some (.tup us7):=ak
    generalize upd (upd H6 l7 (.lst us7)) q8 (.tup us7)=H8 at s8 e8q
    have e8c:=s8 _ _ e6c
    refine ⟨_,rfl,lc,_,_,rfl,.inl (SqL.of e8c),cO _ al,fX al,by rw [List.length_map]; omega,fun x hx=>?_,fun l9 us9 ds9 hl9 pm9 up9 dn9=>?_⟩
    ·obtain ⟨y,_,rfl⟩:=List.mem_map.mp hx
     exact show eO 50 _ from dF (n:=0) (dD _) 50
    obtain ⟨al9,pa9,rfl⟩:=jJ pm9 rfl
    have s9:=aq hl9 (.lst us9)
    refine ⟨l9,_,rfl,.inl ⟨SqL.of ak,fun q10 hq10=>?_⟩⟩
    have s10:=s9.trans (aq hq10 (.tup us9))
    have e10q:(upd (upd H8 l9 (.lst us9)) q10 (.tup us9)) q10=some (.tup us9):=ak
    generalize upd (upd H8 l9 (.lst us9)) q10 (.tup us9)=H10 at s10 e10q
    refine ⟨smn 2,fun q11 hq11=>?_⟩
    have s11:=aq hq11 (.tup [.ref q8,.ref q10])
    have sA:=s10.trans s11
    have sB:=s8.trans sA
    refine k q11 q8 q10 ks7 al9 _ ak ⟨q8,us7,rfl,sA _ _ e8q,dn7.same sB⟩ ⟨q10,us9,rfl,s11 _ _ e10q,dn9.same sA⟩ ?_ (p6.same sB) (o6.trans (Old.of sB))
    exact Fd hL hR hg hnd hkg (by omega) pm0 pm1 pk7 up7 hsub pa9 up9
   ·rintro i σ' H6 hi ⟨v,al,rfl,e6c,e6q,e6k,dn6,hsub,p6,o6⟩
    have hi':i < (ra++rb).length:=by rwa [List.length_map] at hi
    have hat':((ra++rb).map mkT)[i]?=some (mkT (ra++rb)[i]):=Q7 hi'
    refine ⟨⟨_,_,SqL.of e6q,hat'⟩,?_⟩
    rintro y H'' ⟨rfl,hy⟩
    have ey:y=mkT (ra++rb)[i]:=Option.some.inj ((hy _ (SqL.of e6q)).symm.trans hat')
    subst ey
    have htk:(ra++rb).take (i+1)=(ra++rb).take i++[(ra++rb)[i]]:=by
     rw [List.take_add_one,List.getElem?_eq_getElem hi']
     rfl
    refine gN ?_
    refine jO (σ:=[some (.ref d),some (mkT (ra++rb)[i])]) (i:=0) (m:=3) rfl p6 (by decide) (by decide) fun r7 H7 c0 c1 p7 o7=>?_
    have k7:=cP p6 o7
    have e7c:H7 lc=_:=o7 lc _ e6c ncd ncl
    have e7q:H7 lq=_:=o7 lq _ e6q nqd nql
    have e7k:H7 lk=_:=o7 lk _ e6k nkd nkl
    refine ⟨rfl,_,rfl,?_⟩
    refine gR (fun z=>?_) (fun z=>?_)
    ·refine ⟨_,rfl,_,e7c,?_,_,al++[(ra++rb)[i]],rfl,?_,(aF ncq.symm).trans e7q,(aF nck.symm).trans e7k,?_,?_,p7.upd ncd ncl,(o6.trans o7).free hlcH⟩
     ·rw [List.length_map]
      have:=hsub.length_le
      rw [List.length_take,List.length_append] at this
      exact aJ (by omega)
     ·rw [ak,List.map_append]
      rfl
     ·exact (dn6.keepT k7).keepT (iR e7c)
     ·rw [htk]
      exact hsub.append (List.Sublist.refl _)
    ·refine ⟨_,al,rfl,e7c,e7q,e7k,dn6.keepT k7,?_,p7,o6.trans o7⟩
     rw [htk]
     exact hsub.trans (List.sublist_append_left _ _)
 ·rintro i σ' H1 hi ⟨v,as,rfl,ea,s1,hal,hand,hfr,hat⟩
  obtain ⟨qs,ws,pq,hyi,hq,hpq,hdq,hql⟩:∃ (qs:List Prt) (ws:List V) (pq:Addr),([V.ref pl,V.ref pr]:List V)[i]?=some (.ref pq)∧[L,R][i]?=some qs∧H pq=some (.tup ws)∧bI H ws (qs.map bw)∧qs.length≤12:=by
   match i,hi with
   | 0,_=>exact ⟨L,ls,pl,rfl,rfl,hpl,hdl,hL⟩
   | 1,_=>exact ⟨R,rs,pr,rfl,rfl,hpr,hdr,hR⟩
  refine ⟨⟨_,_,SqT.of (s1 _ _ ep),hyi⟩,?_⟩
  rintro y H'' ⟨rfl,hy⟩
  have ey:y=.ref pq:=Option.some.inj ((hy _ (SqT.of (s1 _ _ ep))).symm.trans hyi)
  subst ey
  have hul:=hdq.len
  rw [List.length_map] at hul
  refine gN (xR (oX ?_))
  refine ⟨_,rfl,pq,rfl,⟨_,SqT.of (s1 _ _ hpq)⟩,fun lc hlc=>?_⟩
  refine fu (J:=Itt K pq) (l:=lc) ws.length (fun i σ' H'=>∃ (v:Option V),σ'=[v]∧H'=upd H'' lc (.lst (bG (qs.take i)))) ⟨none,rfl,rfl⟩ ?_ ?_
  ·rintro σ' H2 ⟨v,rfl,rfl⟩
   have s2:=aq hlc (.lst (bG (qs.take ws.length)))
   refine ⟨⟨_,SqT.of (s2 _ _ (s1 _ _ hpq)),Nat.le_refl _⟩,?_⟩
   have nca:la≠lc:=aB ea hlc
   have hlcH:H lc=none:=same_none s1 hlc
   have hnew:lc ∉ as:=fun z=>by
    obtain ⟨j,hj,e⟩:=List.mem_iff_getElem.mp z
    have hj2:j < 2:=by omega
    have hj3:∃ q,[L,R][j]?=some q:=by
     match j,hj2 with
     | 0,_=>exact ⟨_,rfl⟩
     | 1,_=>exact ⟨_,rfl⟩
    obtain ⟨q,hq'⟩:=hj3
    have:=hat j lc q (by rw [List.getElem?_eq_getElem hj,e]) hq'
    rw [hlc] at this
    cases this
   refine ⟨_,s2 _ _ ea,by rw [List.length_map]; exact aJ (by omega),_,as++[lc],rfl,?_,?_,by rw [List.length_append,hal]; rfl,?_,?_,?_⟩
   ·rw [ak,List.map_append]
    rfl
   ·intro c o z
    rw [aF (aB z hla)]
    exact s2 _ _ (s1 _ _ z)
   ·rw [List.nodup_append]
    exact ⟨hand,by simp,fun a ha b hb e=>hnew (by rw [List.mem_singleton.mp hb] at e; rw [← e]; exact ha)⟩
   ·intro l hl
    rcases List.mem_append.mp hl with z | z
    ·exact hfr l z
    ·rw [List.mem_singleton.mp z]
     exact ⟨hlcH,nca.symm⟩
   ·intro j l q hj hjq
    rcases Nat.lt_or_ge j as.length with hlt | hge
    ·rw [List.getElem?_append_left hlt] at hj
     have hne:l≠la:=(hfr l (List.mem_of_getElem? hj)).2
     rw [aF hne]
     exact s2 _ _ (hat j l q hj hjq)
    ·rw [List.getElem?_append_right hge] at hj
     have hj0:j=as.length:=by
      have:=(List.getElem?_eq_some_iff.mp hj).1
      simp at this
      omega
     subst hj0
     simp at hj
     subst hj
     rw [aF nca.symm,ak]
     rw [hal] at hjq
     rw [hq] at hjq
     injection hjq with hjq
     subst hjq
     rw [hul,List.take_length]
  ·rintro i' σ' H2 hi' ⟨v,rfl,rfl⟩
   have s2:=aq hlc (.lst (bG (qs.take i')))
   have hat':ws[i']?=some ws[i']:=List.getElem?_eq_getElem hi'
   refine ⟨⟨_,_,SqT.of (s2 _ _ (s1 _ _ hpq)),hat'⟩,?_⟩
   rintro y H'' ⟨rfl,hy⟩
   have ey:y=ws[i']:=Option.some.inj ((hy _ (SqT.of (s2 _ _ (s1 _ _ hpq)))).symm.trans hat')
   have hni:i' < qs.length:=by omega
   obtain ⟨dd,hdd,dy⟩:=hdq.at_ hat'
   rw [← ey] at dy
   rw [List.getElem?_map,List.getElem?_eq_getElem hni] at hdd
   have edd:bw qs[i']=dd:=Option.some.inj hdd
   subst edd
   obtain ⟨b,bs,rfl,hb,hbd⟩:=aN (dy.same (s1.trans s2))
   obtain ⟨c0,cs,rfl⟩:∃ c0 cs,bs=c0 :: cs:=by
    cases bs with
    | nil=>exact hbd.elim
    | cons c0 cs=>exact ⟨c0,cs,rfl⟩
   have ec:c0=mkT qs[i'].1:=hbd.1
   subst ec
   refine gN (xR (oX ?_))
   refine ⟨_,rfl,b,_,_,_,rfl,rfl,SqT.of hb,bx _ _,_,ak,?_,_,rfl,?_⟩
   ·rw [bG,List.length_map,List.length_take]
    exact aJ (by omega)
   ·rw [gG,List.take_add_one,List.getElem?_eq_getElem hni,bG,bG,List.map_append]
    rfl
end
def Gp:Sp:=fun vs H Q _=>∃ (d lo l:Addr) (xs:Nms),vs=[.ref d,.ref l]∧bB d lo H∧H l=some (.lst (xs.map mkT))∧l≠d∧l≠lo∧wu xs ∧
 ∀ (q:Addr) (L R:List Prt) (ks:List Lnk) (al rest:Nms) (H':Hp),Den H' (.ref q) (cU L R ks al)→Er L R ks al→L.length≤12→R.length≤12→xs.Perm ((L++R).map (·.1)++rest)→H' l=some (.lst (rest.map mkT))→bB d lo H'→iu d lo l H H'→Q (.ref q) H'
section
variable {P:Program} {w:World} {K:PySem.W.Frag} {mg:Str→Option Value} {base:Heap}
theorem Gr:aQ ["_law_pot_here", "_law_names_here", "_law_sides_here"] ["_law_pot_here", "_law_names_here"] (aC DW):=⟨rfl,rfl,rfl,by decide +kernel,rfl,by decide +kernel,by decide +kernel⟩
theorem M4 (h:Has K mg "_law_book" DW ["_law_pot_here", "_law_names_here"]) (C_sides:Cal P w K mg base "_law_sides" 3 ["_law_pot_here", "_law_names_here"] Bm) (C_stood:Cal P w K mg base "_law_stood" 4 ["_law_pot_here", "_law_sides_here"] zQ):Cal P w K mg base "_law_book" 5 ["_law_pot_here", "_law_names_here"] Gp:=by
 refine h.mk' Gr (fun vs H Q E hs=>?_) (fun f cdv A outer s H vs Q E hr hs=>?_)
 ·obtain ⟨d,lo,l,xs,rfl,_⟩:=hs
  rfl
 obtain ⟨d,lo,l,xs,rfl,hp,hl,nd,nl,⟨hxl,hxn,hxm⟩,k⟩:=hs
 refine ⟨_,(au (aH (i:=2) Gr.nd rfl (Or.inl rfl) (aK C_sides hr (by decide) rfl (aj (pv 0) (aj (pv 1) ao))))
  (aD (aV (aX je (pv 2) (aK C_stood hr (by decide) rfl (aj (pv 0) (aj (pv 2) ao))))))),?_⟩
 refine ⟨_,rfl,_,rfl,d,lo,l,xs,rfl,hp,hl,nd,nl,by omega,by omega,hxm,fun q Ps rest H1 dn hPl hPg hpm e1 p1 o1=>?_⟩
 obtain ⟨L,R,rfl⟩:∃ L R,Ps=[L,R]:=by
  match Ps,hPl with
  | [L,R],_=>exact ⟨L,R,rfl⟩
 have hnd:((L++R).map (·.1)).Nodup:=by
  have:=(hpm.nodup_iff.mp hxn).sublist (List.sublist_append_left _ _)
  simpa using this
 have hg:∀ p∈L++R,tV p:=fun p hp'=>by
  rcases List.mem_append.mp hp' with z | z
  ·exact (hPg L (.head _)).2 p z
  ·exact (hPg R (.tail _ (.head _))).2 p z
 refine ⟨_,rfl,_,rfl,_,rfl,d,lo,_,L,R,rfl,p1,dn,(hPg L (.head _)).1,(hPg R (.tail _ (.head _))).1,hg,hnd,fun q2 a b ks al H2 e2 da db gb p2 o2=>?_⟩
 obtain ⟨q',us,eq,eq1,hd⟩:=aN dn
 injection eq with eq
 subst eq
 obtain ⟨b0,b1,rfl⟩:∃ b0 b1,us=[b0,b1]:=by
  match us,hd with
  | [b0,b1],_=>exact ⟨b0,b1,rfl⟩
  | [],h=>exact h.elim
  | [_],h=>exact h.2.elim
  | _ :: _ :: _ :: _,h=>exact h.2.2.elim
 obtain ⟨pl,ls,rfl,hpl,hdl⟩:=aN hd.1
 obtain ⟨pr,rs,rfl,hpr,hdr⟩:=aN hd.2.1
 have k2:=cP p1 o2
 obtain ⟨a',ws,ea,ha,hda⟩:=aN da
 injection ea with ea
 subst ea
 obtain ⟨b',bs,eb,hb,hdb⟩:=aN db
 injection eb with eb
 subst eb
 rw [Dp hdb] at hb
 refine ⟨q,q2,_,_,rfl,rfl,k2 _ _ eq1,e2,smn 4,fun q3 H3 s3 e3=>?_⟩
 refine k q3 L R ks al rest H3 ⟨q3,_,rfl,e3,⟨pl,ls,rfl,s3 _ _ (k2 _ _ hpl),(hdl.keepT k2).same s3⟩,⟨pr,rs,rfl,s3 _ _ (k2 _ _ hpr),(hdr.keepT k2).same s3⟩,⟨a,ws,rfl,s3 _ _ ha,hda.same s3⟩,⟨b,_,rfl,s3 _ _ hb,cO H3 al⟩,trivial⟩ gb (hPg L (.head _)).1 (hPg R (.tail _ (.head _))).1 (by simpa using hpm) (s3 _ _ (o2 _ _ e1 nd nl)) (p2.same s3) ((o1.trans (iu.of2 o2)).trans (iu.of s3))
end
structure Md where
 m:Addr
 dt:Addr
 dw:Addr
 lr:Addr
 l0:Addr
 l1:Addr
 lk:Addr
 la:Addr
 W:List Addr
 b:Nat
def mdK (M:Md):List (Key × V):=[(Sum.inr "text",.ref M.dt),(Sum.inr "when",.ref M.dw),(Sum.inr "rows",.ref M.lr),(Sum.inr "links",.ref M.lk),(Sum.inr "alone",.ref M.la)]
def nk (x:List Nat):Key:=Sum.inr ⟨x.toArray⟩
theorem yg {a b:List Nat} (h:nk a=nk b):a=b:=by
 injection h with h
 injection h with h
 exact Array.mk.inj h
def Md.ln (M:Md) (n:Nat):Addr:=if n=0 then M.l0 else M.l1
def Md.all (M:Md):List Addr:=[M.m,M.dt,M.dw,M.lr,M.l0,M.l1,M.lk,M.la]
structure Gs (T:List Addr) (H:Hp) (v:V) (k:Lnk):Prop where
 ex:∃ (q a b c d:Addr),v=.ref q∧q ∉ T∧a ∉ T∧b ∉ T∧c ∉ T∧d ∉ T∧H q=some (.lst [.ref a,.ref b,.int k.2.2.1,.ref c,.ref d])∧H a=some (.lst (k.1.map mkT))∧H b=some (.lst (k.2.1.map mkT))∧H c=some (.lst (k.2.2.2.1.map V.int))∧H d=some (.lst (k.2.2.2.2.map V.int))
structure Nu (H:Hp) (dt:Addr) (P:List Prt):Prop where
 ex:∃ kt:List (Key × V),H dt=some (.dK kt)∧kt.length≤P.length∧(∀ p∈P,d8 kt (nk p.1)=some (mkT p.2.1))∧∀ k v,d8 kt k=some v→∃ p∈P,k=nk p.1∧v=mkT p.2.1
structure Jy (H:Hp) (dw:Addr) (W:List Addr) (B:Nat) (P:List Prt):Prop where
 ex:∃ kt:List (Key × V),H dw=some (.dK kt)∧kt.length≤P.length∧W.length=P.length∧∀ (i:Nat) (p:Prt),P[i]?=some p→∃ (l:Addr) (ws:List Int),W[i]?=some l∧d8 kt (nk p.1)=some (.ref l)∧H l=some (.lst (ws.map V.int))∧ws.length≤B∧∀ k,k∈ws↔k∈p.2.2
structure Fj (T:List Addr) (H:Hp) (lk:Addr) (ks:List Lnk):Prop where
 ex:∃ us:List V,H lk=some (.lst us)∧us.length=ks.length∧∀ (i:Nat) (u:V) (k:Lnk),us[i]?=some u→ks[i]?=some k→Gs T H u k
structure iZ (S:List Addr) (H:Hp) (M:Md) (L R:List Prt) (ks:List Lnk) (al:Nms):Prop where
 m:H M.m=some (.dK (mdK M))
 t:Nu H M.dt (L++R)
 w:Jy H M.dw M.W M.b (L++R)
 lr:H M.lr=some (.lst [.ref M.l0,.ref M.l1])
 l0:H M.l0=some (.lst (bG L))
 l1:H M.l1=some (.lst (bG R))
 lk:Fj (M.W++S) H M.lk ks
 la:H M.la=some (.lst (al.map mkT))
 off:∀ a∈M.all,a ∉ S
 nd:M.all.Nodup
 wo:∀ a∈M.W,a ∉ S∧a ∉ M.all
 wn:M.W.Nodup
def Keep (S:List Addr) (H H':Hp):Prop:=∀ a o,H a=some o→a ∉ S→H' a=some o
theorem Keep.of {S:List Addr} {H H':Hp} (s:Same H H'):Keep S H H':=fun a o h _=>s a o h
theorem Keep.trans {S:List Addr} {H H1 H2:Hp} (a:Keep S H H1) (b:Keep S H1 H2):Keep S H H2:=fun c o h n=>b c o (a c o h n) n
theorem Keep.old {d lo:Addr} {H H':Hp} (o:Old d lo H H'):Keep [d,lo] H H':=fun a u h n=>o a u h (fun z=>n (by rw [z]; exact .head _)) (fun z=>n (by rw [z]; exact .tail _ (.head _)))
theorem Gs.keep {T S:List Addr} {H H':Hp} {v:V} {k:Lnk} (h:Gs T H v k) (s:Keep S H H') (hs:∀ a∈S,a∈T):Gs T H' v k:=by
 obtain ⟨q,a,b,c,d,e,n1,n2,n3,n4,n5,e1,e2,e3,e4,e5⟩:=h.ex
 exact ⟨q,a,b,c,d,e,n1,n2,n3,n4,n5,s _ _ e1 fun z=>n1 (hs _ z),s _ _ e2 fun z=>n2 (hs _ z),s _ _ e3 fun z=>n3 (hs _ z),s _ _ e4 fun z=>n4 (hs _ z),s _ _ e5 fun z=>n5 (hs _ z)⟩
theorem Fj.keep {T S:List Addr} {H H':Hp} {lk:Addr} {ks:List Lnk} (h:Fj T H lk ks) (s:Keep S H H') (hs:∀ a∈S,a∈T) (hl:lk ∉ S):Fj T H' lk ks:=by
 obtain ⟨us,e,hn,f⟩:=h.ex
 exact ⟨us,s _ _ e hl,hn,fun i u k hu hk=>(f i u k hu hk).keep s hs⟩
theorem Jy.keep {S:List Addr} {H H':Hp} {dw:Addr} {W:List Addr} {B:Nat} {P:List Prt} (h:Jy H dw W B P) (s:Keep S H H') (hs:∀ a∈W,a ∉ S) (hl:dw ∉ S):Jy H' dw W B P:=by
 obtain ⟨kt,e,hn,hw,f⟩:=h.ex
 refine ⟨kt,s _ _ e hl,hn,hw,fun i p hp=>?_⟩
 obtain ⟨l,ws,e1,e2,e3,e4⟩:=f i p hp
 exact ⟨l,ws,e1,e2,s _ _ e3 (hs _ (List.mem_of_getElem? e1)),e4⟩
theorem iZ.keep {S:List Addr} {H H':Hp} {M:Md} {L R:List Prt} {ks:List Lnk} {al:Nms} (h:iZ S H M L R ks al) (s:Keep S H H'):iZ S H' M L R ks al:=by
 have of:∀ {a:Addr} {o:HO},a∈M.all→H a=some o→H' a=some o:=fun ha e=>s _ _ e (h.off _ ha)
 have hs:∀ a∈S,a∈M.W++S:=fun a z=>List.mem_append_right _ z
 obtain ⟨kt,e,hn,f⟩:=h.t.ex
 refine ⟨of (by simp [Md.all]) h.m,⟨kt,of (by simp [Md.all]) e,hn,f⟩,h.w.keep s (fun a ha=>(h.wo a ha).1) (h.off _ (by simp [Md.all])),of (by simp [Md.all]) h.lr,of (by simp [Md.all]) h.l0,of (by simp [Md.all]) h.l1,h.lk.keep s hs (h.off _ (by simp [Md.all])),of (by simp [Md.all]) h.la,h.off,h.nd,h.wo,h.wn⟩
theorem iZ.same {S:List Addr} {H H':Hp} {M:Md} {L R:List Prt} {ks:List Lnk} {al:Nms} (h:iZ S H M L R ks al) (s:Same H H'):iZ S H' M L R ks al:=h.keep (.of s)
theorem mk1:(Sum.inr "text" : Key)≠(Sum.inr "when" : Key):=by decide +kernel
theorem mk2:(Sum.inr "text" : Key)≠(Sum.inr "rows" : Key):=by decide +kernel
theorem mk3:(Sum.inr "text" : Key)≠(Sum.inr "links" : Key):=by decide +kernel
theorem mk4:(Sum.inr "text" : Key)≠(Sum.inr "alone" : Key):=by decide +kernel
theorem mk5:(Sum.inr "when" : Key)≠(Sum.inr "rows" : Key):=by decide +kernel
theorem mk6:(Sum.inr "when" : Key)≠(Sum.inr "links" : Key):=by decide +kernel
theorem mk7:(Sum.inr "when" : Key)≠(Sum.inr "alone" : Key):=by decide +kernel
theorem mk8:(Sum.inr "rows" : Key)≠(Sum.inr "links" : Key):=by decide +kernel
theorem mk9:(Sum.inr "rows" : Key)≠(Sum.inr "alone" : Key):=by decide +kernel
theorem mk0:(Sum.inr "links" : Key)≠(Sum.inr "alone" : Key):=by decide +kernel
theorem v_text (M:Md):d8 (mdK M) (Sum.inr "text" : Key)=some (V.ref M.dt):=(bh rfl)
theorem vB {H:Hp} {M:Md} (h:H M.m=some (.dK (mdK M))):dU H M.m (.str "text") (some (.ref M.dt)):=by
 rw [← v_text M]
 exact dU.k (k:=(Sum.inr _:Key)) h
theorem Kg (M:Md):d8 (mdK M) (Sum.inr "when" : Key)=some (V.ref M.dw):=((aR mk1).trans (bh rfl))
theorem Gj {H:Hp} {M:Md} (h:H M.m=some (.dK (mdK M))):dU H M.m (.str "when") (some (.ref M.dw)):=by
 rw [← Kg M]
 exact dU.k (k:=(Sum.inr _:Key)) h
theorem Mz (M:Md):d8 (mdK M) (Sum.inr "rows" : Key)=some (V.ref M.lr):=((aR mk2).trans ((aR mk5).trans (bh rfl)))
theorem uP {H:Hp} {M:Md} (h:H M.m=some (.dK (mdK M))):dU H M.m (.str "rows") (some (.ref M.lr)):=by
 rw [← Mz M]
 exact dU.k (k:=(Sum.inr _:Key)) h
theorem Jz (M:Md):d8 (mdK M) (Sum.inr "links" : Key)=some (V.ref M.lk):=((aR mk3).trans ((aR mk6).trans ((aR mk8).trans (bh rfl))))
theorem Ia {H:Hp} {M:Md} (h:H M.m=some (.dK (mdK M))):dU H M.m (.str "links") (some (.ref M.lk)):=by
 rw [← Jz M]
 exact dU.k (k:=(Sum.inr _:Key)) h
theorem JL (M:Md):d8 (mdK M) (Sum.inr "alone" : Key)=some (V.ref M.la):=((aR mk4).trans ((aR mk7).trans ((aR mk9).trans ((aR mk0).trans (bh rfl)))))
theorem Jf {H:Hp} {M:Md} (h:H M.m=some (.dK (mdK M))):dU H M.m (.str "alone") (some (.ref M.la)):=by
 rw [← JL M]
 exact dU.k (k:=(Sum.inr _:Key)) h
def kh (L R:List Prt) (x:List Nat):V:=if (bK (L++R) x).isSome=true then .int (jM L x:Nat) else .non
def Bu:Sp:=fun vs H Q _=>∃ (S:List Addr) (M:Md) (L R:List Prt) (ks:List Lnk) (al:Nms) (x:List Nat),vs=[.ref M.m,mkT x]∧iZ S H M L R ks al∧∀ H',Same H H'→Q (kh L R x) H'
theorem Cr {S:List Addr} {H:Hp} {M:Md} {L R:List Prt} {ks:List Lnk} {al:Nms} (h:iZ S H M L R ks al) {n:Nat} (hn:n≤1):atI [V.ref M.l0,V.ref M.l1] (n:Nat)=some (.ref (M.ln n))∧H (M.ln n)=some (.lst (bG (sdP n L R))):=by
 match n,hn with
 | 0,_=>exact ⟨bx _ _,h.l0⟩
 | 1,_=>exact ⟨aW (xs:=[V.ref M.l0,V.ref M.l1]) (j:=1) rfl,h.l1⟩
theorem Ky {L R:List Prt} {x:List Nat} (h:x∈L.map (·.1)):kh L R x=.int (0:Nat):=by
 have h1:(bK L x).isSome=true:=by rw [dM]; exact decide_eq_true h
 have h2:(bK (L++R) x).isSome=true:=by rw [dM]; exact decide_eq_true (by rw [List.map_append]; exact List.mem_append_left _ h)
 unfold kh jM
 rw [if_pos h2,if_pos h1]
theorem Ma {L R:List Prt} {x:List Nat} (h0:x ∉ L.map (·.1)) (h:x∈R.map (·.1)):kh L R x=.int (1:Nat):=by
 have h1:¬ (bK L x).isSome=true:=by rw [dM]; simpa using h0
 have h2:(bK (L++R) x).isSome=true:=by rw [dM]; exact decide_eq_true (by rw [List.map_append]; exact List.mem_append_right _ h)
 unfold kh jM
 rw [if_pos h2,if_neg h1]
theorem Lk {L R:List Prt} {x:List Nat} (h0:x ∉ L.map (·.1)) (h:x ∉ R.map (·.1)):kh L R x=.non:=by
 have h2:¬ (bK (L++R) x).isSome=true:=by
  rw [dM,decide_eq_true_eq,List.map_append,List.mem_append]
  exact fun z=>z.elim h0 h
 unfold kh
 rw [if_neg h2]
section
variable {P:Program} {w:World} {K:PySem.W.Frag} {mg:Str→Option Value} {base:Heap}
theorem GD:aQ ["_law_model_here", "_law_name", "_law_side_here"] ["_law_model_here", "_law_name"] (aC Df):=⟨rfl,rfl,rfl,by decide +kernel,rfl,by decide +kernel,by decide +kernel⟩
theorem M7 (h:Has K mg "_law_side" Df ["_law_model_here", "_law_name"])  : Cal P w K mg base "_law_side" 1 ["_law_model_here", "_law_name"] Bu:=by
 refine h.mk' GD (fun vs H Q E hs=>?_) (fun f cdv A outer s H vs Q E hr hs=>?_)
 ·obtain ⟨S,M,L,R,ks,al,x,rfl,_⟩:=hs
  rfl
 obtain ⟨S,M,L,R,ks,al,x,rfl,hM,k⟩:=hs
 refine ⟨_,(au (dB PassesOwn.never rfl (fO (cB (aj aA (aj aA ao)))) (aO (i:=2) GD.nd rfl (Or.inl rfl))
   (aD (dJ (aZ Bg (pv 1) (aY bQ (bA (bL hr) (pv 0) aG (fun _ _=>rfl)) (pv 2) (fun _ _=>rfl)) (by with_unfolding_all rfl))
   (aD (aV (pv 2)))
   bH)))
  (aD (aV jK))),?_⟩
 refine ⟨smn 2,fun tt htt=>⟨tt,rfl,⟨_,SqT.of ak⟩,?_⟩⟩
 have s1:=aq htt (.tup [.int 0,.int 1])
 have ett:(upd H tt (.tup [.int 0,.int 1])) tt=some (.tup [.int 0,.int 1]):=ak
 generalize upd H tt (.tup [.int 0,.int 1])=H1 at s1 ett ⊢
 have hM1:=hM.same s1
 refine jA (K:=K) (a:=tt) (xs:=[.int 0,.int 1]) (fun i σ H2=>∃ v2:Option V,σ=[some (.ref M.m),some (mkT x),v2]∧H2=H1∧∀ j,j < i→x ∉ (sdP j L R).map (·.1)) ⟨_,rfl,rfl,fun j hj=>by omega⟩ ?_ ?_ ?_
 ·rintro i σ H2 _ ⟨_,_,rfl,_⟩
  exact SqT.of ett
 ·rintro i y σ H2 hi ⟨v2,rfl,rfl,hno⟩
  obtain ⟨hi1,rfl⟩:i≤1∧y=.int (i:Nat):=by
   match i,hi with
   | 0,hi=>exact ⟨by omega,(Option.some.inj hi).symm⟩
   | 1,hi=>exact ⟨by omega,(Option.some.inj hi).symm⟩
  obtain ⟨hat,hrow⟩:=Cr hM1 hi1
  refine gN ⟨_,rfl,_,rfl,M.m,_,rfl,uP hM1.m,_,rfl,M.lr,_,_,_,rfl,rfl,SqL.of hM1.lr,hat,M.ln i,_,rfl,.inl (SqL.of hrow),rfl,by rw [vY]; exact Eb _,_,rfl,?_⟩
  rw [show (if false=true then !inV (mkT x) (bG (sdP i L R)) else inV (mkT x) (bG (sdP i L R)))=inV (mkT x) (bG (sdP i L R)) from rfl,vY,M6]
  refine gR (fun z=>?_) (fun z=>?_)
  ·have z:=of_decide_eq_true z
   have e:kh L R x=.int (i:Nat):=by
    match i,hi1,z,hno with
    | 0,_,z,_=>exact Ky z
    | 1,_,z,hno=>exact Ma (hno 0 (by omega)) z
   refine ⟨_,rfl,?_⟩
   have:=k H2 s1
   rw [e] at this
   exact this
  ·refine ⟨_,rfl,rfl,fun j hj=>?_⟩
   by_cases e:j=i
   ·rw [e]
    exact fun q=>z (decide_eq_true q)
   ·exact hno j (by omega)
 ·rintro σ H2 ⟨v2,rfl,rfl,hno⟩
  have:=k H2 s1
  rw [Lk (L:=L) (R:=R) (hno 0 (by show 0 < 2; omega)) (hno 1 (by show 1 < 2; omega))] at this
  exact this
end
theorem yE {κ:Type} [DecidableEq κ] {kvs:List (κ × V)} {k:κ} {u:V} (v:V) (h:d8 kvs k=some u):(putK kvs k v).length=kvs.length:=by
 unfold putK
 rw [if_pos,List.length_map]
 unfold d8 at h
 cases z:kvs.find? (fun kv=>decide (kv.1=k)) with
 | none=>rw [z] at h; cases h
 | some p=>exact List.any_eq_true.mpr ⟨p,List.mem_of_find?_eq_some z,List.find?_some (p:=fun kv:κ × V=>decide (kv.1=k)) z⟩
theorem Gs.keepL {T:List Addr} {H H':Hp} {v:V} {k:Lnk} (h:Gs T H v k) (s:∀ (a:Addr) (vs:List V),H a=some (.lst vs)→a ∉ T→H' a=some (.lst vs)):Gs T H' v k:=by
 obtain ⟨q,a,b,c,d,e,n1,n2,n3,n4,n5,e1,e2,e3,e4,e5⟩:=h.ex
 exact ⟨q,a,b,c,d,e,n1,n2,n3,n4,n5,s _ _ e1 n1,s _ _ e2 n2,s _ _ e3 n3,s _ _ e4 n4,s _ _ e5 n5⟩
theorem eF {H:Hp} {a d:Addr} {vs:List V} {kv:List (Key × V)} (h1:H a=some (.lst vs)) (h2:H d=some (.dK kv)):a≠d:=iC h1 h2 (by intro z; cases z)
theorem nj {L:List Prt} {x:List Nat} {q:Prt} (h:bK L x=some q):q∈L∧q.1=x:=⟨List.mem_of_find?_eq_some h,of_decide_eq_true (List.find?_some (p:=fun p:Prt=>decide (p.1=x)) h)⟩
theorem vO (Z:List Prt) (q:Prt):bG (mH Z q)=bG Z:=by
 unfold bG mH
 rw [List.map_map]
 refine List.map_congr_left fun r _=>?_
 show mkT (if r.1=q.1 then q else r).1=mkT r.1
 split
 ·rename_i h; rw [h]
 ·rfl
theorem uJ {Z:List Prt} {q:Prt} (h:q.1 ∉ Z.map (·.1)):mH Z q=Z:=by
 unfold mH
 refine (List.map_congr_left fun r hr=>?_).trans (List.map_id Z)
 exact if_neg fun e=>h (List.mem_map.mpr ⟨r,hr,e⟩)
theorem Dq (L R:List Prt) (q:Prt):bG (jE L R q).1=bG L∧bG (jE L R q).2=bG R:=by
 unfold jE gQ sdP
 split
 ·exact ⟨vO _ _,rfl⟩
 ·exact ⟨rfl,vO _ _⟩
theorem uQ {L R:List Prt} {q:Prt} (hn:((L++R).map (·.1)).Nodup):(jE L R q).1++(jE L R q).2=mH (L++R) q:=by
 have e:mH (L++R) q=mH L q++mH R q:=List.map_append
 rw [e]
 rw [List.map_append,List.nodup_append] at hn
 unfold jE gQ sdP jM
 rw [dM]
 by_cases h:q.1∈L.map (·.1)
 ·rw [show (if decide (q.1∈L.map (·.1))=true then 0 else 1:Nat)=0 from if_pos (decide_eq_true h),if_pos rfl,if_pos rfl,uJ (Z:=R) fun z=>hn.2.2 _ h _ z rfl]
 ·rw [show (if decide (q.1∈L.map (·.1))=true then 0 else 1:Nat)=1 from if_neg (by simpa using h),if_neg (by decide),if_neg (by decide),uJ (Z:=L) h]
theorem uc {Z:List Prt} {q p':Prt} {i:Nat} (h:(mH Z q)[i]?=some p'):∃ p,Z[i]?=some p∧p'=if p.1=q.1 then q else p:=by
 unfold mH at h
 rw [List.getElem?_map] at h
 cases z:Z[i]? with
 | none=>rw [z] at h; cases h
 | some p=>rw [z] at h; exact ⟨p,rfl,(Option.some.inj h).symm⟩
theorem Ei {Z:List Prt} (hn:(Z.map (·.1)).Nodup) {i j:Nat} {p q:Prt} (hi:Z[i]?=some p) (hj:Z[j]?=some q) (e:p.1=q.1):i=j:=by
 obtain ⟨h1,e1⟩:=List.getElem?_eq_some_iff.mp hi
 refine (List.getElem?_inj (by rw [List.length_map]; exact h1) hn).mp ?_
 rw [List.getElem?_map,List.getElem?_map,hi,hj]
 exact congrArg some e
theorem iZ.put {S:List Addr} {H H':Hp} {M:Md} {L R:List Prt} {ks:List Lnk} {al:Nms} (h:iZ S H M L R ks al) (hnd:((L++R).map (·.1)).Nodup) {kt:List (Key × V)} (et:H M.dt=some (.dK kt)) (htl:kt.length≤(L++R).length) (hkt:∀ p∈L++R,d8 kt (nk p.1)=some (mkT p.2.1)) (hkk:∀ k v,d8 kt k=some v→∃ p∈L++R,k=nk p.1∧v=mkT p.2.1)
  {i:Nat} {q:Prt} (hq:(L++R)[i]?=some q) {l:Addr} {ws:List Int} (hl:M.W[i]?=some l) (el:H l=some (.lst (ws.map V.int))) (hwb:ws.length≤M.b) (hws:∀ k,k∈ws↔k∈q.2.2) {x tx:List Nat} {t:Int} (hx:q.1=x)
  (kp:∀ a o,H a=some o→a≠M.dt→a≠l→H' a=some o) (et':H' M.dt=some (.dK (putK kt (nk x) (mkT tx)))) (el':H' l=some (.lst ((ws++[t]).map V.int))) :
  iZ S H' { M with b:=M.b+1 } (jE L R (x,tx,gw q.2.2 t)).1 (jE L R (x,tx,gw q.2.2 t)).2 ks al:=by
 have hlW:l∈M.W:=List.mem_of_getElem? hl
 obtain ⟨hlS,hlA⟩:=h.wo l hlW
 have nd:=h.nd
 unfold Md.all at nd hlA
 simp only [List.nodup_cons,List.mem_cons,List.not_mem_nil,or_false,not_or,not_false_eq_true,and_true] at nd hlA
 obtain ⟨⟨a1,a2,a3,a4,a5,a6,a7⟩,⟨b1,b2,b3,b4,b5,b6⟩,_⟩:=nd
 obtain ⟨c1,c2,c3,c4,c5,c6,c7,c8⟩:=hlA
 have hap:=uQ (q:=(x,tx,gw q.2.2 t)) hnd
 obtain ⟨hn1,hn2⟩:=Dq L R (x,tx,gw q.2.2 t)
 have hcl:(mH (L++R) (x,tx,gw q.2.2 t)).length=(L++R).length:=by unfold mH; rw [List.length_map]
 obtain ⟨kw,ew,hwl,hWl,hkw⟩:=h.w.ex
 obtain ⟨us,e1,e2,e3⟩:=h.lk.ex
 refine ⟨kp _ _ h.m a1 (Ne.symm c1),?_,?_,kp _ _ h.lr (Ne.symm b2) (Ne.symm c4),?_,?_,⟨us,kp _ _ e1 (Ne.symm b5) (Ne.symm c7),e2,fun j u k hu hk=>(e3 j u k hu hk).keepL fun a vs ha hna=>kp a _ ha (eF ha et) fun z=>hna (by rw [z]; exact List.mem_append_left _ hlW)⟩,kp _ _ h.la (Ne.symm b6) (Ne.symm c8),h.off,h.nd,h.wo,h.wn⟩
 ·refine ⟨_,et',?_,fun p hp=>?_,fun k v hv=>?_⟩
  ·rw [hap,hcl,yE _ (by rw [← hx]; exact hkt q (List.mem_of_getElem? hq))]
   exact htl
  ·rw [hap] at hp
   obtain ⟨j,hj⟩:=List.mem_iff_getElem?.mp hp
   obtain ⟨r,hr,e⟩:=uc hj
   rw [iV]
   by_cases c:r.1=x
   ·rw [e,if_pos c,if_pos rfl]
   ·rw [e,if_neg c,if_neg fun z=>c (yg z)]
    exact hkt r (List.mem_of_getElem? hr)
  ·rw [hap]
   rw [iV] at hv
   by_cases c:k=nk x
   ·rw [if_pos c] at hv
    refine ⟨(x,tx,gw q.2.2 t),List.mem_map.mpr ⟨q,List.mem_of_getElem? hq,if_pos hx⟩,c,(Option.some.inj hv).symm⟩
   ·rw [if_neg c] at hv
    obtain ⟨r,hr,e1,e2⟩:=hkk k v hv
    exact ⟨r,List.mem_map.mpr ⟨r,hr,if_neg fun z=>c (by rw [e1]; exact congrArg nk z)⟩,e1,e2⟩
 ·refine ⟨kw,kp _ _ ew (Ne.symm b1) (Ne.symm c3),by rw [hap,hcl]; exact hwl,by rw [hap,hcl]; exact hWl,fun j p hj=>?_⟩
  rw [hap] at hj
  obtain ⟨r,hr,e⟩:=uc hj
  obtain ⟨l2,ws2,g1,g2,g3,g4,g5⟩:=hkw j r hr
  by_cases c:r.1=x
  ·have ij:i=j:=Ei hnd hq hr (hx.trans c.symm)
   subst ij
   have el2:l=l2:=Option.some.inj (hl.symm.trans g1)
   rw [e,if_pos c]
   refine ⟨l,ws++[t],hl,by rw [el2,← c]; exact g2,el',by rw [List.length_append]; show ws.length+1≤M.b+1; omega,fun k=>?_⟩
   rw [j7,List.mem_append,List.mem_singleton,hws]
  ·rw [e,if_neg c]
   refine ⟨l2,ws2,g1,g2,kp _ _ g3 (eF g3 et) fun z=>?_,Nat.le_succ_of_le g4,g5⟩
   have:i=j:=(List.getElem?_inj (List.getElem?_eq_some_iff.mp hl).1 h.wn).mp (by rw [hl,g1,z])
   subst this
   rw [hq] at hr
   exact c (by rw [← Option.some.inj hr]; exact hx)
 ·rw [hn1]; exact kp _ _ h.l0 (Ne.symm b3) (Ne.symm c5)
 ·rw [hn2]; exact kp _ _ h.l1 (Ne.symm b4) (Ne.symm c6)
def qj:Option Nat→Str
 | none=>Str.ofString ""
 | some 0=>Str.ofString "NoPart"
 | some 1=>Str.ofString "NoPlace"
 | some _=>Str.ofString "Twice"
inductive De where
 | chg (tx:List Nat)
 | wrd (n:Nat) (wd:List Nat)
def De.vs:De→Int→List Nat→List V
 | .chg tx,t,x=>[.str yL,.int t,mkT x,mkT tx]
 | .wrd n wd,t,x=>[.str wA,.int t,mkT x,.int (n:Nat),mkT wd]
def De.new:De→List Nat→Option (List Nat)
 | .chg tx,_=>some tx
 | .wrd n wd,old=>vh old n wd
def De.ok:De→Prop
 | .chg tx=>tx.length≤400
 | .wrd n wd=>n≤10000∧wd.length≤20
def deE (e:De) (L R:List Prt) (x:List Nat):Option Nat:=match bK (L++R) x with
 | none=>some 0
 | some q=>match e.new q.2.1 with
  | none=>some 1
  | some _=>none
def deP (e:De) (L R:List Prt) (x:List Nat) (t:Int):Prt:=match bK (L++R) x with
 | none=>(x,[],[])
 | some q=>(x,(e.new q.2.1).getD [],gw q.2.2 t)
def fK:Sp:=fun vs H Q _=>∃ (S:List Addr) (M:Md) (L R:List Prt) (ks:List Lnk) (al:Nms) (pd:Addr) (t:Int) (x:List Nat) (e:De),vs=[.ref M.m,.ref pd]∧iZ S H M L R ks al∧H pd=some (.tup (e.vs t x))∧e.ok∧(L++R).length≤200∧((L++R).map (·.1)).Nodup∧(∀ p∈L++R,p.2.1.length≤5000)∧M.b≤500 ∧
 (∀ c,deE e L R x=some c→∀ H',Same H H'→Q (.str (qj (some c))) H') ∧
 (deE e L R x=none→∀ H',Keep (M.dt :: M.W) H H'→iZ S H' { M with b:=M.b+1 } (jE L R (deP e L R x t)).1 (jE L R (deP e L R x t)).2 ks al→Q (.str (qj none)) H')
theorem jB {L R:List Prt} {x:List Nat}:kh L R x=.non↔¬ (bK (L++R) x).isSome=true:=by
 unfold kh
 split
 ·rename_i h
  exact ⟨(fun z=>nomatch z),fun z=>absurd h z⟩
 ·rename_i h
  exact ⟨fun _=>h,fun _=>rfl⟩
theorem O2 (e:De) (t:Int) (x:List Nat):∃ us,e.vs t x=us∧atI us (1:Nat)=some (.int t)∧atI us (2:Nat)=some (mkT x):=by
 cases e with
 | chg tx=>exact ⟨_,rfl,aW (j:=1) rfl,aW (j:=2) rfl⟩
 | wrd n wd=>exact ⟨_,rfl,aW (j:=1) rfl,aW (j:=2) rfl⟩
theorem Ph {b:Bool} {A B:Prop} (h:b=false) (k:B):if b=true then A else B:=by
 rw [h,if_neg (by decide)]
 exact k
theorem Ol {b:Bool} {A B:Prop} (h:b=true) (k:A):if b=true then A else B:=by
 rw [if_pos h]
 exact k
theorem ur (e:De):(∃ tx,e=.chg tx)∨∃ n wd,e=.wrd n wd:=by
 cases e with
 | chg tx=>exact .inl ⟨tx,rfl⟩
 | wrd n wd=>exact .inr ⟨n,wd,rfl⟩
section
variable {P:Program} {w:World} {K:PySem.W.Frag} {mg:Str→Option Value} {base:Heap}
open M22
theorem fD:aQ ["_law_model_here", "_law_deed_here", "_law_text_here", "_law_spans_here", "_law_begin", "_law_end"] ["_law_model_here", "_law_deed_here"] (aC oW):=⟨rfl,rfl,rfl,by decide +kernel,rfl,by decide +kernel,by decide +kernel⟩
theorem CZ (h:Has K mg "_law_change" oW ["_law_model_here", "_law_deed_here"]) (C_side:Cal P w K mg base "_law_side" 1 ["_law_model_here", "_law_name"] Bu) (C_spans:Cal P w K mg base "_law_spans" 1 ["_law_text_here"] sG) (m_len:mg "len" = none):Cal P w K mg base "_law_change" 3 ["_law_model_here", "_law_deed_here"] fK:=by
 refine h.mk' fD (fun vs H Q E hs=>?_) (fun f cdv A outer s H vs Q E hr hs=>?_)
 ·obtain ⟨S,M,L,R,ks,al,pd,t,x,e,rfl,_⟩:=hs
  rfl
 obtain ⟨S,M,L,R,ks,al,pd,t,x,e,rfl,hM,hd,hok,hlen,hnd,htx,hMb,k1,k2⟩:=hs
 refine ⟨_,(au (dJ (aZ Aq (aK C_side hr (by decide) rfl (aj (pv 0) (aj (aY bC (pv 1) aA (fun _ _=>rfl)) ao))) jK (bF _))
   (aD (aV aG))
   bH)
  (au (aH (i:=2) fD.nd rfl (Or.inl rfl) (bA (bL hr) (bA (bL hr) (pv 0) aG (fun _ _=>rfl)) (aY bC (pv 1) aA (fun _ _=>rfl)) (fun _ _=>rfl)))
  (au (dJ (aZ iT (aY bC (pv 1) aA (fun _ _=>rfl)) aG (bF _))
   (au (aH (i:=3) fD.nd rfl (Or.inl rfl) (aK C_spans hr (by decide) rfl (aj (pv 2) ao)))
  (au (dJ (aZ IV (aY bC (pv 1) aA (fun _ _=>rfl)) (aP cH rfl m_len PySem.boot_len (aj (pv 3) ao)) (bF _))
   (aD (aV aG))
   bH)
  (au (Bl (aY bQ (pv 3) (aY bC (pv 1) aA (fun _ _=>rfl)) (fun _ _=>rfl)) (uD (n:=2) rfl (bR (aO (i:=4) fD.nd rfl (Or.inl rfl)) (bR (aO (i:=5) fD.nd rfl (Or.inl rfl)) kI))))
  (aD (aH (i:=2) fD.nd rfl (Or.inl rfl) (aX bM (aX bM (cC lC (pv 2) dh (dg (pv 4))) (aY bC (pv 1) aA (fun _ _=>rfl))) (cC lC (pv 2) (dg (pv 5)) dh)))))))
   (aD (aH (i:=2) fD.nd rfl (Or.inl rfl) (aY bC (pv 1) aA (fun _ _=>rfl)))))
  (au (dZ (bL hr) (bA (bL hr) (pv 0) aG (fun _ _=>rfl)) (aY bC (pv 1) aA (fun _ _=>rfl)) (pv 2) rfl)
  (au (dO (gB PySem.F.plainAttrs_list PySem.F.slot_list_append PySem.F.type_list_append bN (bA (bL hr) (bA (bL hr) (pv 0) aG (fun _ _=>rfl)) (aY bC (pv 1) aA (fun _ _=>rfl)) (fun _ _=>rfl)) (aj (aY bC (pv 1) aA (fun _ _=>rfl)) ao)))
  (aD (aV aG))))))),?_⟩
 obtain ⟨us,eus,at1,at2⟩:=O2 e t x
 have hd0:=hd
 rw [eus] at hd0
 refine CG (fun σ H'=>σ=[some (.ref M.m),some (.ref pd),none,none,none,none]∧Same H H'∧(bK (L++R) x).isSome=true) (fun N hN=>?_) ?_
 ·refine ⟨_,rfl,_,rfl,pd,_,_,_,rfl,rfl,SqT.of hd0,at2,S,M,L,R,ks,al,x,rfl,hM,fun H1 s1=>?_⟩
  refine ⟨rfl,_,rfl,?_⟩
  refine gR (fun z=>?_) (fun z=>?_)
  ·have hno:bK (L++R) x=none:=by
    have:=jB.mp (of_decide_eq_true z)
    simpa using this
   exact k1 0 (by unfold deE; rw [hno]) H1 s1
  ·refine hN _ _ ⟨rfl,s1,?_⟩
   by_cases c:(bK (L++R) x).isSome=true
   ·exact c
   ·exact absurd (decide_eq_true (jB.mpr c)) z
 rintro σ H1 ⟨rfl,s1,hso⟩
 obtain ⟨q,hq⟩:=Option.isSome_iff_exists.mp hso
 obtain ⟨hqm,hqx⟩:=nj hq
 have hM1:=hM.same s1
 obtain ⟨kt,et,htl,hkt,_⟩:=hM1.t.ex
 have hgt:dU H1 M.dt (mkT x) (some (mkT q.2.1)):=by
  rw [← hkt q hqm,hqx]
  exact dU.k (k:=nk x) et
 have hd1:=s1 _ _ hd0
 refine ⟨_,rfl,M.m,_,rfl,vB hM1.m,_,rfl,pd,_,_,_,rfl,rfl,SqT.of hd1,at2,M.dt,_,rfl,hgt,?_⟩
 refine gN ?_
 refine nxP (fun σ H'=>∃ (tx:List Nat) (u3 u4 u5:Option V),σ=[some (.ref M.m),some (.ref pd),some (mkT tx),u3,u4,u5]∧Same H H'∧e.new q.2.1=some tx) (fun N hN=>?_) ?_
 ·rcases ur e with ⟨tx,he⟩ | ⟨n,wd,he⟩
  ·have eu:us=[.str yL,.int t,mkT x,mkT tx]:=by rw [← eus,he]; rfl
   rw [eu] at hd1
   refine ⟨_,rfl,pd,_,_,_,rfl,rfl,SqT.of hd1,bx _ _,rfl,_,rfl,?_⟩
   refine Ph (decide_eq_false fun z=>absurd z (by decide +kernel)) ?_
   refine ⟨_,rfl,pd,_,_,_,rfl,rfl,SqT.of hd1,aW (xs:=[.str yL,.int t,mkT x,mkT tx]) (j:=3) rfl,?_⟩
   exact gN (hN _ _ ⟨tx,_,_,_,rfl,s1,by rw [he]; rfl⟩)
  ·have eu:us=[.str wA,.int t,mkT x,.int (n:Nat),mkT wd]:=by rw [← eus,he]; rfl
   rw [eu] at hd1
   have at_:∀ {j:Nat} {y:V},[V.str wA,.int t,mkT x,.int (n:Nat),mkT wd][j]?=some y→atI [V.str wA,.int t,mkT x,.int (n:Nat),mkT wd] (j:Nat)=some y:=fun h=>aW h
   have hok':n≤10000∧wd.length≤20:=by rw [he] at hok; exact hok
   refine ⟨_,rfl,pd,_,_,_,rfl,rfl,SqT.of hd1,bx _ _,rfl,_,rfl,?_⟩
   refine Ol (decide_eq_true (show V.str wA=V.str (Str.ofString "word") from rfl)) ?_
   refine ⟨_,rfl,q.2.1,rfl,htx q hqm,fun l vs H2 s2 e2 d2=>gN ?_⟩
   have hvl:=d2.len
   rw [List.length_map] at hvl
   have hd2:=s2 _ _ hd1
   refine ⟨_,rfl,pd,_,_,_,rfl,rfl,SqT.of hd2,at_ (j:=3) rfl,_,rfl,l,_,rfl,.inl (SqL.of e2),_,_,rfl,rfl,_,rfl,?_⟩
   refine gR (fun z=>?_) (fun z=>?_)
   ·have hge:(spans q.2.1).length≤n:=by
     have:=of_decide_eq_true z
     omega
    have hno:vh q.2.1 n wd=none:=by
     unfold vh
     rw [List.getElem?_eq_none hge]
     rfl
    exact k1 1 (by unfold deE; rw [hq]; show (match e.new q.2.1 with | none=>some 1 | some _=>none)=some 1; rw [he]; show (match vh q.2.1 n wd with | none=>some 1 | some _=>none)=some 1; rw [hno]) H2 (s1.trans s2)
   ·have hlt:n < (spans q.2.1).length:=by
     refine Classical.byContradiction fun c=>z (decide_eq_true ?_)
     omega
    have hsp:(spans q.2.1)[n]?=some (spans q.2.1)[n]:=cG hlt
    have hvn:n < vs.length:=by omega
    have dsp:Den H2 vs[n] (spD (spans q.2.1)[n]):=at_of d2 (cG hvn) (by rw [List.getElem?_map,hsp]; rfl)
    have hatv:atI vs (n:Nat)=some vs[n]:=aW (cG hvn)
    have hwt:vh q.2.1 n wd=some (q.2.1.take (spans q.2.1)[n].1++wd++q.2.1.drop (spans q.2.1)[n].2):=by
     unfold vh
     rw [hsp]
     rfl
    generalize (spans q.2.1)[n]=sp at dsp hwt
    generalize vs[n]=y at dsp hatv
    obtain ⟨py,ys,rfl,hpy,dys⟩:=aN dsp
    match ys,dys with
    | [],dys=>exact dys.elim
    | [_],dys=>exact dys.2.elim
    | _ :: _ :: _ :: _,dys=>exact dys.2.2.elim
    | [y0,y1],dys =>
     have ey0:y0=.int (sp.1:Nat):=dys.1
     have ey1:y1=.int (sp.2:Nat):=dys.2.1
     rw [ey0,ey1] at hpy
     refine ⟨_,rfl,_,rfl,pd,_,_,_,rfl,rfl,SqT.of hd2,at_ (j:=3) rfl,l,_,_,_,rfl,rfl,SqL.of e2,hatv,py,_,rfl,SqT.of hpy,rfl,_,_,rfl,_,_,rfl,rfl,?_⟩
     have hz:(⟨q.2.1.toArray⟩:Str).length≤sizeLine:=by rw [lQ]; exact eV (by have:=htx q hqm; omega)
     have eS:(Txt.slice ⟨q.2.1.toArray⟩ none (some ((sp.1:Nat):Int))++(⟨wd.toArray⟩:Str))++Txt.slice ⟨q.2.1.toArray⟩ (some ((sp.2:Nat):Int)) none=⟨(q.2.1.take sp.1++wd++q.2.1.drop sp.2).toArray⟩:=by
      rw [gO,jT,ji,ji]
     have hqt:=htx q hqm
     refine ⟨_,rfl,_,rfl,_,rfl,⟨q.2.1.toArray⟩,rfl,hz,_,rfl,pd,_,_,_,rfl,rfl,SqT.of hd2,at_ (j:=4) rfl,_,_,rfl,rfl,?_,_,rfl,_,rfl,_,rfl,⟨q.2.1.toArray⟩,rfl,hz,_,_,rfl,rfl,?_,gN (hN _ _ ⟨_,some (.ref l),some (.int (sp.1:Nat)),some (.int (sp.2:Nat)),?_,s1.trans s2,(by rw [he]; exact hwt)⟩)⟩
     ·rw [gO,lQ,lQ,List.length_take]; exact Nat.le_trans (show _≤1000000 by omega) bJ
     ·rw [gO,jT,ji,lQ,lQ,List.length_append,List.length_take,List.length_drop]; exact Nat.le_trans (show _≤1000000 by omega) bJ
     ·rw [eS]
      rfl
 rintro σ H2 ⟨tx,u3,u4,u5,rfl,s2,hnew⟩
 have hM2:=hM.same s2
 clear hgt hd1 htl hkt et hM1
 obtain ⟨kt,et,htl,hkt,hkk⟩:=hM2.t.ex
 obtain ⟨kw,ew,hwl,hWl,hkw⟩:=hM2.w.ex
 obtain ⟨i,hi⟩:=List.mem_iff_getElem?.mp hqm
 obtain ⟨l,ws,g1,g2,g3,g4,g5⟩:=hkw i q hi
 have hlW:l∈M.W:=List.mem_of_getElem? g1
 have hlA:=(hM.wo l hlW).2
 have nd:=hM.nd
 unfold Md.all at nd hlA
 simp only [List.nodup_cons,List.mem_cons,List.not_mem_nil,or_false,not_or,not_false_eq_true,and_true] at nd hlA
 obtain ⟨⟨a1,a2,_⟩,⟨b1,_⟩,_⟩:=nd
 have hd2:=s2 _ _ hd0
 have npd:pd≠M.dt:=iC hd2 et (by intro z; cases z)
 refine ⟨_,rfl,_,rfl,M.m,_,rfl,vB hM2.m,_,rfl,pd,_,_,_,rfl,rfl,SqT.of hd2,at2,M.dt,_,rfl,rN.k (k:=nk x) et (aJ (by omega)),?_⟩
 have c1:(upd H2 M.dt (.dK (putK kt (nk x) (mkT tx)))) M.m=some (.dK (mdK M)):=by rw [aF a1]; exact hM2.m
 have c2:(upd H2 M.dt (.dK (putK kt (nk x) (mkT tx)))) M.dt=some (.dK (putK kt (nk x) (mkT tx))):=ak
 have c3:(upd H2 M.dt (.dK (putK kt (nk x) (mkT tx)))) M.dw=some (.dK kw):=by rw [aF (Ne.symm b1)]; exact ew
 have c4:(upd H2 M.dt (.dK (putK kt (nk x) (mkT tx)))) l=some (.lst (ws.map V.int)):=by rw [aF (eF g3 et)]; exact g3
 have c5:(upd H2 M.dt (.dK (putK kt (nk x) (mkT tx)))) pd=some (.tup us):=by rw [aF npd]; exact hd2
 have c6:∀ (a:Addr) (o:HO),H2 a=some o→a≠M.dt→(upd H2 M.dt (.dK (putK kt (nk x) (mkT tx)))) a=some o:=fun a o h hne=>by rw [aF hne]; exact h
 generalize upd H2 M.dt (.dK (putK kt (nk x) (mkT tx)))=H3 at c1 c2 c3 c4 c5 c6
 have hgw:dU H3 M.dw (mkT x) (some (.ref l)):=by
  rw [← g2,hqx]
  exact dU.k (k:=nk x) c3
 refine ⟨_,rfl,M.m,_,rfl,Gj c1,_,rfl,pd,_,_,_,rfl,rfl,SqT.of c5,at2,M.dw,_,rfl,hgw,.inl ⟨rfl,_,SqL.of c4⟩,_,rfl,pd,_,_,_,rfl,rfl,SqT.of c5,at1,l,_,_,rfl,rfl,c4,aJ (by rw [List.length_map]; omega),?_⟩
 have hE:deE e L R x=none:=by
  unfold deE
  rw [hq]
  show (match e.new q.2.1 with | none=>some 1 | some _=>none)=none
  rw [hnew]
 have hP:deP e L R x t=(x,tx,gw q.2.2 t):=by
  unfold deP
  rw [hq]
  show (x,(e.new q.2.1).getD [],gw q.2.2 t)=_
  rw [hnew]
  rfl
 rw [hP] at k2
 refine k2 hE _ (fun a o ha hna=>?_) (hM2.put hnd et htl hkt hkk hi g1 g3 g4 g5 hqx (fun a o ha h1 h2=>by rw [aF h2]; exact c6 _ _ ha h1) (by rw [aF (Ne.symm (eF g3 et))]; exact c2) (by rw [ak,List.map_append]; rfl))
 have n1:a≠M.dt:=fun z=>hna (by rw [z]; exact .head _)
 have n2:a≠l:=fun z=>hna (by rw [z]; exact .tail _ hlW)
 rw [aF n2]
 exact c6 _ _ (s2 _ _ ha) n1
end
def Nv:Sp:=fK
theorem sU {vs:List V} {H H':Hp} {Q:VK} {E E':XK} (h:fK vs H Q E) (s:Same H H'):fK vs H' Q E':=by
 obtain ⟨S,M,L,R,ks,al,pd,t,x,e,ev,hM,hd,hok,hlen,hnd,htx,hMb,k1,k2⟩:=h
 exact ⟨S,M,L,R,ks,al,pd,t,x,e,ev,hM.same s,s _ _ hd,hok,hlen,hnd,htx,hMb,fun c z H2 s2=>k1 c z H2 (s.trans s2),fun z H2 kp=>k2 z H2 (Keep.trans (.of s) kp)⟩
theorem Mf {vs:List V} {H:Hp} {Q:VK} {E:XK} (h:Nv vs H Q E):∃ (m pd:Addr) (k:Str) (ys:List V),vs=[.ref m,.ref pd]∧H pd=some (.tup (.str k :: ys))∧(k=yL∨k=wA)∧fK vs H Q E:=by
 have h0:fK vs H Q E:=h
 obtain ⟨S,M,L,R,ks,al,pd,t,x,e,ev,hM,hd,_⟩:=h
 rcases ur e with ⟨tx,he⟩ | ⟨n,wd,he⟩
 ·rw [he] at hd
  exact ⟨_,pd,yL,_,ev,hd,.inl rfl,h0⟩
 ·rw [he] at hd
  exact ⟨_,pd,wA,_,ev,hd,.inr rfl,h0⟩
def doK (f:Addr):List (Key × V):=[(Sum.inr "change",.ref f),(Sum.inr "word",.ref f)]
theorem O6:(Sum.inr "change" : Key)≠(Sum.inr "word" : Key):=by decide +kernel
theorem J5:Str.ofString "word" ≠ Str.ofString "change":=by decide +kernel
theorem Dk (f:Addr):gj [] (doK f)=doK f:=by
 unfold doK
 simp [gj,putK,J5,Ne.symm J5]
theorem O1 (f:Addr):d8 (doK f) (Sum.inr "change" : Key)=some (V.ref f):=bh rfl
theorem O5 (f:Addr):d8 (doK f) (Sum.inr "word" : Key)=some (V.ref f):=(aR O6).trans (bh rfl)
section
variable {P:Program} {w:World} {K:PySem.W.Frag} {mg:Str→Option Value} {base:Heap}
theorem PB:aQ ["_law_model_here", "_law_deed_here", "_law_doers", "_law_doer"] ["_law_model_here", "_law_deed_here"] (aC sDo):=⟨rfl,rfl,rfl,by decide +kernel,rfl,by decide +kernel,by decide +kernel⟩
theorem QH (h:Has K mg "_law_do" sDo ["_law_model_here", "_law_deed_here"]) {f_change:Addr} (qf_change:mg "_law_change" = some (.ref f_change)) (Fn_change:Fn1 P w K mg base f_change 3 ["_law_model_here", "_law_deed_here"] fK):Cal P w K mg base "_law_do" 4 ["_law_model_here", "_law_deed_here"] Nv:=by
 refine h.mk' PB (fun vs H Q E hs=>?_) (fun f cdv A outer s H vs Q E hr hs=>?_)
 ·obtain ⟨m,pd,k,ys,rfl,_⟩:=Mf hs
  rfl
 obtain ⟨m,pd,kw,ys,rfl,hd,hk,hc⟩:=Mf hs
 refine ⟨_,(au (aH (i:=2) PB.nd rfl (Or.inl rfl) (tM (eY aG (d7 (v:=.ref f_change) rfl qf_change rfl) (eY aG (d7 (v:=.ref f_change) rfl qf_change rfl) tZ)) rfl rfl (by simp) (by decide +kernel)))
  (au (aH (i:=3) PB.nd rfl (Or.inl rfl) (bA (bL hr) (pv 2) (aY bC (pv 1) aA (fun _ _=>rfl)) (fun _ _=>rfl)))
  (aD (aV (Ah hr (pv 3) Hs (aj (pv 0) (aj (pv 1) ao))))))),?_⟩
 refine fun d hnew=>⟨ak,doK f_change,rfl,(by show 2≤15; decide),?_⟩
 rw [Dk,gG]
 have s1:=aq hnew (.dK (doK f_change))
 have e1:(upd H d (.dK (doK f_change))) d=some (.dK (doK f_change)):=ak
 generalize upd H d (.dK (doK f_change))=H1 at s1 e1
 have hg:dU H1 d (.str kw) (some (.ref f_change)):=by
  rcases hk with rfl | rfl
  ·rw [← O1 f_change]
   exact dU.k (k:=(Sum.inr "change" : Key)) e1
  ·rw [← O5 f_change]
   exact dU.k (k:=(Sum.inr "word" : Key)) e1
 refine ⟨_,rfl,_,rfl,pd,_,_,_,rfl,rfl,SqT.of (s1 _ _ hd),bx _ _,d,_,rfl,hg,?_⟩
 exact ⟨f_change,_,_,_,rfl,Fn_change,by decide,_,rfl,_,rfl,sU (E':=fun _ _ _=>False) hc s1⟩
end
theorem lO:bootBuiltins "ValueError" = some (.type "ValueError"):=by decide +kernel
def a7 (a b c d e f g:Addr):Nat→Addr
 | 0=>a
 | 1=>b
 | 2=>c
 | 3=>d
 | 4=>e
 | 5=>f
 | _=>g
structure KB (K:PySem.W.Frag) (c te:Addr):Prop where
 ek:Dl K c
 un:PySem.W.subIn K (.ref c) (.ref te)=some true
 ii:PySem.W.isIn K (.ref c) c=true
 iv:PySem.W.subIn K (.ref c) (.type "ValueError")=some true
structure KC (K:PySem.W.Frag) (te:Addr) (A:Nat→Addr) (e:Nat):Prop where
 ek:Dl K (A e)
 un:PySem.W.subIn K (.ref (A e)) (.ref te)=some true
 ii:PySem.W.isIn K (.ref (A e)) (A e)=true
 iv:PySem.W.subIn K (.ref (A e)) (.type "ValueError")=some true
 no:∀ i,i < 7→i≠e→PySem.W.kin_not K (A e) (A i)=true
theorem KC.isx {K:PySem.W.Frag} {te:Addr} {A:Nat→Addr} {e:Nat} (h:KC K te A e) {i:Nat} (hi:i < 7):IsX K (A e) (.ref (A i)) (decide (i=e)):=by
 by_cases z:i=e
 ·rw [decide_eq_true z,z]
  exact .inl ⟨_,rfl,.inl ⟨rfl,h.ii⟩⟩
 ·rw [decide_eq_false z]
  exact .inl ⟨_,rfl,.inr ⟨rfl,h.ek,h.no i hi z⟩⟩
def mks (e:Nat):List V:=[.bl (decide (0=e)),.bl (decide (1=e)),.bl (decide (2=e)),.bl (decide (3=e)),.bl (decide (4=e)),.bl (decide (5=e)),.bl (decide (6=e))]
def wds:List V:=[.str "NoPart",.str "NoPlace",.str "Twice",.str "Linked",.str "Apart",.str "NoDeed",.str "NoText"]
theorem J3 {e:Nat} (h:e≤2):(mks e).all ig=true∧(mks e).countP (fun z=>eqV z (.bl true))=1∧(mks e)[e]?=some (.bl true)∧(∀ i z,i < e→(mks e)[i]?=some z→eqV z (.bl true)=false)∧atI wds (e:Nat)=some (.str (qj (some e))):=by
 match e,h with
 | 0,_=>exact ⟨rfl,rfl,rfl,fun i z hi=>by omega,aW (xs:=wds) (j:=0) rfl⟩
 | 1,_=>exact ⟨rfl,rfl,rfl,fun i z hi hz=>by
   obtain rfl:i=0:=by omega
   cases hz
   rfl,aW (xs:=wds) (j:=1) rfl⟩
 | 2,_=>exact ⟨rfl,rfl,rfl,fun i z hi hz=>by
   obtain rfl | rfl:i=0∨i=1:=by omega
   ·cases hz
    rfl
   ·cases hz
    rfl,aW (xs:=wds) (j:=2) rfl⟩
def yH (K:PySem.W.Frag) (te:Addr) (A:Nat→Addr) (C:Nat→Addr):Sp:=fun vs H Q _=>∃ (v:V) (pd:Addr) (o:Option Nat) (B:D),vs=[v,.ref pd]∧(∀ e,o=some e→e≤2∧KC K te A e∧C e=A e) ∧
 (∀ Q' E',(o=none→∀ (u:V) (H':Hp),Same H H'→Den H' u B→Q' u H')→(∀ e,o=some e→cJ (C e) H E')→nA C vs H Q' E') ∧
 (o=none→∀ (t:Addr) (u:V) (H':Hp),Same H H'→H' t=some (.tup [u,.str (qj none)])→Den H' u B→Q (.ref t) H')∧(∀ e,o=some e→∀ (t:Addr) (H':Hp),Same H H'→H' t=some (.tup [.non,.str (qj (some e))])→Q (.ref t) H')
section
variable {P:Program} {w:World} {K:PySem.W.Frag} {mg:Str→Option Value} {base:Heap} {a_NoPart a_TwainError a_NoPlace a_Twice a_Linked a_Apart a_NoDeed a_NoText:Addr}
theorem dY:aQ ["_law_book_here", "_law_deed_here", "_law_caught", "_law_made", "e", "_law_words", "_law_marks"] ["_law_book_here", "_law_deed_here"] (aC vI):=⟨rfl,rfl,rfl,by decide +kernel,rfl,by decide +kernel,by decide +kernel⟩
theorem HF (h:Has K mg "_law_tried" vI ["_law_book_here", "_law_deed_here"]) (q_TwainError:mg "TwainError" = some (.ref a_TwainError)) (x_TwainError:PySem.W.excIn K a_TwainError vBm "ValueError.__new__" = true) (q_Twice:mg "Twice" = some (.ref a_Twice)) (q_NoPlace:mg "NoPlace" = some (.ref a_NoPlace)) (q_NoPart:mg "NoPart" = some (.ref a_NoPart)) (q_Apart:mg "Apart" = some (.ref a_Apart)) (q_Linked:mg "Linked" = some (.ref a_Linked)) (q_NoText:mg "NoText" = some (.ref a_NoText)) (q_NoDeed:mg "NoDeed" = some (.ref a_NoDeed)) (C_done:jP P w K mg base "done" 5 ["book", "deed"] (nA (c3 a_NoPart a_NoPlace a_Twice))) (m_isinstance:mg "isinstance" = none) (m_ValueError:mg "ValueError" = none):Cal P w K mg base "_law_tried" 6 ["_law_book_here", "_law_deed_here"] (yH K a_TwainError (a7 a_NoPart a_NoPlace a_Twice a_Linked a_Apart a_NoDeed a_NoText) (c3 a_NoPart a_NoPlace a_Twice)):=by
 refine h.mk' dY (fun vs H Q E hs=>?_) (fun f cdv A outer s H vs Q E hr hs=>?_)
 ·obtain ⟨v,pd,o,B,rfl,_⟩:=hs
  rfl
 obtain ⟨v,pd,o,B,rfl,hc,hsp,k1,k2⟩:=hs
 refine ⟨_,(au (aH (i:=2) dY.nd rfl (Or.inl rfl) jK)
  (au (aH (i:=3) dY.nd rfl (Or.inl rfl) jK)
  (au (Aw (i:=4) (fun pins R=>(aD (aH (i:=3) dY.nd rfl (Or.inl rfl) (Ec C_done hr (by decide) rfl (aj (pv 0) (aj (pv 1) ao)))))) (fun e=>(aD (aH (i:=2) dY.nd rfl (Or.inl rfl) (pv 4)))) rfl q_TwainError x_TwainError dY.nd rfl rfl rfl rfl)
  (au (dJ (aZ Aq (pv 2) jK (bF _))
   (aD (aV (cB (aj (pv 3) (aj aG ao)))))
   bH)
  (au (aH (i:=5) dY.nd rfl (Or.inl rfl) (bV (aj aG (aj aG (aj aG (aj aG (aj aG (aj aG (aj aG ao)))))))))
  (au (aH (i:=6) dY.nd rfl (Or.inl rfl) (bV (aj (aP bO rfl m_isinstance boot_isinstance (aj (pv 2) (aj (d7 (v:=.ref a_NoPart) rfl q_NoPart rfl) ao))) (aj (aP bO rfl m_isinstance boot_isinstance (aj (pv 2) (aj (d7 (v:=.ref a_NoPlace) rfl q_NoPlace rfl) ao))) (aj (aP bO rfl m_isinstance boot_isinstance (aj (pv 2) (aj (d7 (v:=.ref a_Twice) rfl q_Twice rfl) ao))) ao)))))
  (au (aH (i:=6) dY.nd rfl (Or.inl rfl) (aX lW (pv 6) (bV (aj (aP bO rfl m_isinstance boot_isinstance (aj (pv 2) (aj (d7 (v:=.ref a_Linked) rfl q_Linked rfl) ao))) (aj (aP bO rfl m_isinstance boot_isinstance (aj (pv 2) (aj (d7 (v:=.ref a_Apart) rfl q_Apart rfl) ao))) ao)))))
  (au (aH (i:=6) dY.nd rfl (Or.inl rfl) (aX lW (pv 6) (bV (aj (aP bO rfl m_isinstance boot_isinstance (aj (pv 2) (aj (d7 (v:=.ref a_NoDeed) rfl q_NoDeed rfl) ao))) (aj (aP bO rfl m_isinstance boot_isinstance (aj (pv 2) (aj (d7 (v:=.ref a_NoText) rfl q_NoText rfl) ao))) ao)))))
  (au (dJ (PW.pt (CN (aZ MF (gB PySem.F.plainAttrs_list PySem.F.slot_list_count PySem.F.type_list_count yK (pv 6) (aj wF ao)) aA (bF _)) (vd (GF (uz (aP bO rfl m_isinstance boot_isinstance (aj (pv 2) (aj (lB (v:=.ty "ValueError") rfl m_ValueError lO rfl) ao))))))))
   (aD (aV (cB (aj jK (aj aG ao)))))
   bH)
  (aD (aV (cB (aj jK (aj (aY bQ (pv 5) (gB PySem.F.plainAttrs_list PySem.F.slot_list_index PySem.F.type_list_index Bp (pv 6) (aj wF ao)) (fun _ _=>rfl)) ao)))))))))))))),?_⟩
 refine ⟨_,rfl,_,rfl,hsp _ _ (fun ho u H1 s1 d1=>?_) (fun e ho=>wH fun ex T H1 s1 hex hx=>?_)⟩
 ·refine ⟨_,rfl,rfl,_,rfl,oX ⟨_,rfl,smn 2,fun t ht=>?_⟩⟩
  have s2:=aq ht (.tup [u,.str (qj none)])
  exact k1 ho t u _ (s1.trans s2) ak (d1.same s2)
 obtain ⟨he2,kc,hce⟩:=hc e ho
 rw [hce] at hx ⊢
 refine ⟨⟨_,rfl,kc.un⟩,fun T' hT' hn=>?_⟩
 have sx:Same H (xH H1 T' ex (.ref (a7 a_NoPart a_NoPlace a_Twice a_Linked a_Apart a_NoDeed a_NoText e))):=tL s1 hex hn
 have ee:xH H1 T' ex (.ref (a7 a_NoPart a_NoPlace a_Twice a_Linked a_Apart a_NoDeed a_NoText e)) ex=some (mK (.ref (a7 a_NoPart a_NoPlace a_Twice a_Linked a_Apart a_NoDeed a_NoText e)) T' ex):=ak
 generalize xH H1 T' ex (.ref (a7 a_NoPart a_NoPlace a_Twice a_Linked a_Apart a_NoDeed a_NoText e))=H2 at sx ee
 refine ⟨_,rfl,_,rfl,rfl,_,rfl,?_⟩
 refine gR (fun z=>by have:=of_decide_eq_true z; cases this) (fun _=>?_)
 refine ⟨smn 7,fun lw hlw=>?_⟩
 have w0:=aq hlw (.lst wds)
 have ew:(upd H2 lw (.lst wds)) lw=some (.lst wds):=ak
 have ex0:=w0 _ _ ee
 generalize hH3:upd H2 lw (.lst wds)=H3 at w0 ew ex0
 have hH3:upd H2 lw (.lst [.str "NoPart",.str "NoPlace",.str "Twice",.str "Linked",.str "Apart",.str "NoDeed",.str "NoText"])=H3:=hH3
 rw [hH3]
 obtain ⟨m1,m2,m3,m4,m5⟩:=J3 he2
 refine ⟨_,rfl,ex,T',_,_,_,rfl,ex0,kc.isx (i:=0) (by omega),_,rfl,ex,T',_,_,_,rfl,ex0,kc.isx (i:=1) (by omega),_,rfl,ex,T',_,_,_,rfl,ex0,kc.isx (i:=2) (by omega),smn 3,fun l1 hl1=>?_⟩
 have w1:=aq hl1 (.lst [.bl (decide (0=e)),.bl (decide (1=e)),.bl (decide (2=e))])
 have e1:(upd H3 l1 (.lst [.bl (decide (0=e)),.bl (decide (1=e)),.bl (decide (2=e))])) l1=some (.lst [.bl (decide (0=e)),.bl (decide (1=e)),.bl (decide (2=e))]):=ak
 generalize upd H3 l1 (.lst [.bl (decide (0=e)),.bl (decide (1=e)),.bl (decide (2=e))])=H4 at w1 e1 ⊢
 have ex1:=w1 _ _ ex0
 refine ⟨_,rfl,_,rfl,ex,T',_,_,_,rfl,ex1,kc.isx (i:=3) (by omega),_,rfl,ex,T',_,_,_,rfl,ex1,kc.isx (i:=4) (by omega),smn 2,fun l2 hl2=>?_⟩
 have w2:=aq hl2 (.lst [.bl (decide (3=e)),.bl (decide (4=e))])
 have e2:(upd H4 l2 (.lst [.bl (decide (3=e)),.bl (decide (4=e))])) l2=some (.lst [.bl (decide (3=e)),.bl (decide (4=e))]):=ak
 generalize upd H4 l2 (.lst [.bl (decide (3=e)),.bl (decide (4=e))])=H5 at w2 e2 ⊢
 refine ⟨l1,l2,_,_,rfl,rfl,w2 _ _ e1,e2,smn 5,fun l3 hl3=>?_⟩
 have w3:=aq hl3 (.lst ([.bl (decide (0=e)),.bl (decide (1=e)),.bl (decide (2=e))]++[.bl (decide (3=e)),.bl (decide (4=e))]))
 have e3:(upd H5 l3 (.lst ([.bl (decide (0=e)),.bl (decide (1=e)),.bl (decide (2=e))]++[.bl (decide (3=e)),.bl (decide (4=e))]))) l3=some (.lst ([.bl (decide (0=e)),.bl (decide (1=e)),.bl (decide (2=e))]++[.bl (decide (3=e)),.bl (decide (4=e))])):=ak
 generalize upd H5 l3 (.lst ([.bl (decide (0=e)),.bl (decide (1=e)),.bl (decide (2=e))]++[.bl (decide (3=e)),.bl (decide (4=e))]))=H6 at w3 e3 ⊢
 have ex3:=w3 _ _ (w2 _ _ ex1)
 refine ⟨_,rfl,_,rfl,ex,T',_,_,_,rfl,ex3,kc.isx (i:=5) (by omega),_,rfl,ex,T',_,_,_,rfl,ex3,kc.isx (i:=6) (by omega),smn 2,fun l4 hl4=>?_⟩
 have w4:=aq hl4 (.lst [.bl (decide (5=e)),.bl (decide (6=e))])
 have e4:(upd H6 l4 (.lst [.bl (decide (5=e)),.bl (decide (6=e))])) l4=some (.lst [.bl (decide (5=e)),.bl (decide (6=e))]):=ak
 generalize upd H6 l4 (.lst [.bl (decide (5=e)),.bl (decide (6=e))])=H7 at w4 e4 ⊢
 refine ⟨l3,l4,_,_,rfl,rfl,w4 _ _ e3,e4,smn 7,fun l5 hl5=>?_⟩
 have w5:=aq hl5 (.lst (mks e))
 have e5:(upd H7 l5 (.lst (mks e))) l5=some (.lst (mks e)):=ak
 generalize hH8:upd H7 l5 (.lst (mks e))=H8 at w5 e5
 have hH8:upd H7 l5 (.lst (([.bl (decide (0=e)),.bl (decide (1=e)),.bl (decide (2=e))]++[.bl (decide (3=e)),.bl (decide (4=e))])++[.bl (decide (5=e)),.bl (decide (6=e))]))=H8:=hH8
 rw [hH8]
 have s38:=w1.trans (w2.trans (w3.trans (w4.trans w5)))
 have ex5:=s38 _ _ ex0
 have ew5:=s38 _ _ ew
 refine ⟨_,rfl,.inl ⟨rfl,_,SqL.of e5⟩,l5,_,.bl true,rfl,rfl,e5,rfl,m1,?_⟩
 rw [m2]
 refine ⟨rfl,_,rfl,?_⟩
 refine gR (fun z=>absurd z (by decide)) (fun _=>?_)
 refine ⟨_,rfl,ex,T',_,_,_,rfl,ex5,.inr ⟨_,rfl,rfl,by kernel_rfl,kc.iv⟩,_,rfl,?_⟩
 refine gR (fun z=>absurd z (by decide)) (fun _=>?_)
 refine ⟨_,rfl,_,rfl,.inl ⟨rfl,_,SqL.of e5⟩,l5,_,.bl true,.bl true,e,rfl,rfl,e5,rfl,m1,m3,rfl,m4,lw,_,_,_,rfl,rfl,SqL.of ew5,m5,smn 2,fun t ht=>?_⟩
 have s9:=aq ht (.tup [.non,.str (qj (some e))])
 exact k2 e ho t _ ((sx.trans (w0.trans s38)).trans s9) ak
end
def Pl:Nat→D→Prop
 | _,.int _=>True
 | _,.str _=>True
 | n+1,.tup ds=>ds.length≤1000∧∀ d∈ds,Pl n d
 | _,_=>False
theorem yJ:∀ n:Nat,(List.replicate n true).all id=true
 | 0=>rfl
 | n+1=>by rw [List.replicate_succ,List.all_cons,yJ n]; rfl
def yG:Nat→Sp
 | 0=>fun _ _ _ _=>False
 | n+1=>fun vs H Q _=>∃ (v:V) (d:D),vs=[v]∧Den H v d∧Pl n d∧∀ H',Same H H'→Q (.bl true) H'
section
variable {P:Program} {w:World} {K:PySem.W.Frag} {mg:Str→Option Value} {base:Heap}
theorem Jv:aQ ["_law_thing"] ["_law_thing"] (aC qm):=⟨rfl,rfl,rfl,by decide +kernel,rfl,by decide +kernel,by decide +kernel⟩
theorem yZ (h:Has K mg "_law_kinds" qm ["_law_thing"]) (m_isinstance:mg "isinstance" = none) (m_tuple:mg "tuple" = none) (m_all:mg "all" = none) (m_bool:mg "bool" = none) (m_int:mg "int" = none) (m_str:mg "str" = none) :
  ∀ n:Nat,Cal P w K mg base "_law_kinds" n ["_law_thing"] (yG n)
 | 0=>h.never fun _ _ _ _ z=>z
 | n+1=>by
  have C_kinds:=yZ h m_isinstance m_tuple m_all m_bool m_int m_str n
  refine h.mk' Jv (fun vs H Q E hs=>?_) (fun f cdv A outer s H vs Q E hr hs=>?_)
  ·obtain ⟨v,d,rfl,_⟩:=hs
   rfl
  obtain ⟨v,d,rfl,hv,hsh,k⟩:=hs
  refine ⟨_,(au (dJ (uz (aP fL rfl m_isinstance boot_isinstance (aj (pv 0) (aj (lB (v:=.ty "tuple") rfl m_tuple boot_tuple rfl) ao))))
   (aD (aV (aP (Cd rfl) rfl m_all boot_all (aj (cM ["_law_thing"] (aC qm) ["_law_one"] [none] rfl rfl rfl (fO (pv 0)) rfl (by decide +kernel) (by decide +kernel) (by decide +kernel) (by decide +kernel) (hg:=fun cl C s H ex pn E=>(aO (i:=0) (by decide +kernel:(["_law_one"]:List Str).Nodup) rfl (Or.inl rfl))) (ht:=fun cl C s H ex pn E=>cD) (he:=fun cl C s H ex pn E=>(aK C_kinds hr (Nat.le_refl _) rfl (aj (pv 0) ao)))) ao))))
   bH)
  (aD (aV (Hv (aP fL rfl m_isinstance boot_isinstance (aj (pv 0) (aj (lB (v:=.ty "str") rfl m_str boot_str rfl) ao))) (Cg (Mj (aP fL rfl m_isinstance boot_isinstance (aj (pv 0) (aj (lB (v:=.ty "int") rfl m_int boot_int rfl) ao))) (Cg (Nk (aP fL rfl m_isinstance boot_isinstance (aj (pv 0) (aj (lB (v:=.ty "bool") rfl m_bool boot_bool rfl) ao))))))))))),?_⟩
  cases d with
  | non=>cases n <;> exact hsh.elim
  | bl b=>cases n <;> exact hsh.elim
  | int i =>
   have e1:v=.int i:=hv
   subst e1
   refine ⟨_,rfl,_,_,_,false,rfl,.int _,pX K,_,rfl,xQ ?_⟩
   refine ⟨_,rfl,_,_,_,false,rfl,.int _,rR K,?_⟩
   refine ⟨_,rfl,xQ ⟨_,rfl,_,_,_,true,rfl,.int _,rO K,_,rfl,oX ⟨_,rfl,_,_,_,false,rfl,.int _,qL K,?_⟩⟩⟩
   exact ⟨_,rfl,k H (Same.refl _)⟩
  | str x =>
   have e1:v=.str x:=hv
   subst e1
   refine ⟨_,rfl,_,_,_,false,rfl,.str _,oY K,_,rfl,xQ ?_⟩
   refine ⟨_,rfl,_,_,_,true,rfl,.str _,sI K,?_⟩
   exact ⟨_,rfl,oX (k H (Same.refl _))⟩
  | tup ds =>
   obtain ⟨p,vs,rfl,hp,hd1⟩:=aN hv
   cases n with
   | zero=>exact hsh.elim
   | succ m =>
   obtain ⟨hlen,hin⟩:=hsh
   have l1:=hd1.len
   refine ⟨_,rfl,_,_,_,true,rfl,.tup hp,lg K,_,rfl,oX ?_⟩
   refine ⟨_,rfl,p,rfl,⟨_,SqT.of hp⟩,fun l hl=>?_⟩
   refine gJ (J:=Itt K p) (l:=l) ds.length (fun i σ' H'=>∃ v0:Option V,σ'=[v0]∧Same H H'∧H' l=some (.lst ((List.replicate i true).map V.bl))) ⟨none,rfl,aq hl _,ak⟩ ?_ ?_
   ·rintro σ' H' ⟨v0,rfl,hs,hl'⟩
    refine ⟨⟨_,SqT.of (hs _ _ hp),by rw [l1]; exact Nat.le_refl _⟩,l,List.replicate ds.length true,rfl,SqL.of hl',?_⟩
    rw [yJ]
    exact k H' hs
   ·rintro i σ' H' hi ⟨v0,rfl,hs,hl'⟩
    have hx1:vs[i]?=some vs[i]:=List.getElem?_eq_getElem (by omega)
    refine ⟨⟨_,_,SqT.of (hs _ _ hp),hx1⟩,?_⟩
    rintro N hN y H'' ⟨rfl,h1⟩
    have e1:y=vs[i]:=Option.some.inj ((h1 _ (SqT.of (hs _ _ hp))).symm.trans hx1)
    obtain ⟨d1,g1,b1⟩:=hd1.at_ hx1
    rw [← e1] at b1
    refine gN (xR (oX ⟨_,rfl,_,d1,rfl,b1.same hs,hin d1 (List.mem_of_getElem? g1),fun H3 s3=>?_⟩))
    have hl3:=s3 _ _ hl'
    refine ⟨_,hl3,by rw [List.length_map,List.length_replicate]; exact aJ (by omega),hN _ _ ⟨_,rfl,cX (hs.trans s3) hl,?_⟩⟩
    rw [ak,List.replicate_succ',List.map_append]
    rfl
end
def GZ:Sp:=fun vs H Q _=>∃ (d lo l1 l2:Addr) (xs ys:Nms),vs=[.ref d,.ref l1,.ref l2]∧bB d lo H∧H l1=some (.lst (xs.map mkT))∧H l2=some (.lst (ys.map mkT))∧l1≠lo∧l2≠lo∧ys≠[]∧xs.length≤900∧ys.length≤900 ∧
 ∀ (z:List Nat) (H':Hp),z∈xs++ys→bB d lo H'→Old d lo H H'→Q (mkT z) H'
theorem pJ {d lo l:Addr} {H:Hp} {vs:List V} (hp:bB d lo H) (h:H l=some (.lst vs)):l≠d:=by
 obtain ⟨cs,a,b,c,e1,e2,_⟩:=hp
 exact eF h e1
section
variable {P:Program} {w:World} {K:PySem.W.Frag} {mg:Str→Option Value} {base:Heap}
theorem Gz:aQ ["_law_pot_here", "_law_some_here", "_law_others"] ["_law_pot_here", "_law_some_here", "_law_others"] (aC DX):=⟨rfl,rfl,rfl,by decide +kernel,rfl,by decide +kernel,by decide +kernel⟩
theorem MK (h:Has K mg "_law_pick" DX ["_law_pot_here", "_law_some_here", "_law_others"]) (C_next:Cal P w K mg base "_law_next" 1 ["_law_pot_here", "_law_many"] gY) (m_len:mg "len" = none):Cal P w K mg base "_law_pick" 2 ["_law_pot_here", "_law_some_here", "_law_others"] GZ:=by
 refine h.mk' Gz (fun vs H Q E hs=>?_) (fun f cdv A outer s H vs Q E hr hs=>?_)
 ·obtain ⟨d,lo,l1,l2,xs,ys,rfl,_⟩:=hs
  rfl
 obtain ⟨d,lo,l1,l2,xs,ys,rfl,hp,h1,h2,n1,n2,hy,hxl,hyl,k⟩:=hs
 refine ⟨_,(au (dJ (PW.pt (CN (aZ (Mp hr.units0) (pv 1) (bV ao) (bF _)) (vd (aZ iT (aK C_next hr (by decide) rfl (aj (pv 0) (aj aA ao))) aA (bF _)))))
   (aD (aH (i:=1) Gz.nd rfl (Or.inl rfl) (pv 2)))
   bH)
  (aD (aV (aY bQ (pv 1) (aK C_next hr (by decide) rfl (aj (pv 0) (aj (aP cH rfl m_len PySem.boot_len (aj (pv 1) ao)) ao))) (fun _ _=>rfl))))),?_⟩
 refine CG (fun σ H'=>∃ (l:Addr) (zs:Nms),σ=[some (.ref d),some (.ref l),some (.ref l2)]∧bB d lo H'∧Old d lo H H'∧H' l=some (.lst (zs.map mkT))∧l≠lo∧zs≠[]∧zs.length≤900∧∀ z∈zs,z∈xs++ys) (fun N hN=>?_) ?_
 ·refine ⟨_,rfl,smn 0,fun le hle=>?_⟩
  have s1:=aq hle (.lst [])
  have e1:(upd H le (.lst [])) le=some (.lst []):=ak
  generalize upd H le (.lst [])=H1 at s1 e1 ⊢
  have oth:∀ (H':Hp),bB d lo H'→Old d lo H H'→N [some (.ref d),some (.ref l2),some (.ref l2)] H':=fun H' p o=>hN _ _ ⟨l2,ys,rfl,p,o,o _ _ h2 (pJ hp h2) n2,n2,hy,hyl,fun z hz=>List.mem_append_right _ hz⟩
  refine ⟨l1,le,_,rfl,rfl,s1 _ _ h1,e1,_,rfl,?_⟩
  refine gR (fun z=>?_) (fun z=>?_)
  ·exact ⟨_,rfl,oth H1 (hp.same s1) (.of s1)⟩
  ·have hx:xs≠[]:=fun e=>z (by rw [e]; rfl)
   refine ⟨_,rfl,d,lo,10,rfl,hp.same s1,by decide,by decide,fun r H2 r0 r1 p2 o2=>?_⟩
   have o02:Old d lo H H2:=Old.trans (.of s1) o2
   refine ⟨rfl,_,rfl,?_⟩
   refine gR (fun z=>?_) (fun z=>?_)
   ·exact ⟨_,rfl,oth H2 p2 o02⟩
   ·exact hN _ _ ⟨l1,xs,rfl,p2,o02,o02 _ _ h1 (pJ hp h1) n1,n1,hx,hxl,fun z hz=>List.mem_append_left _ hz⟩
 rintro σ H1 ⟨l,zs,rfl,p1,o1,e1,nl,hz,hzl,hin⟩
 have hpos:=List.length_pos_iff.mpr hz
 refine ⟨_,rfl,_,rfl,_,rfl,l,_,rfl,.inl (SqL.of e1),d,lo,_,rfl,p1,by rw [List.length_map]; omega,by rw [List.length_map]; omega,fun r H2 r0 r1 p2 o2=>?_⟩
 rw [List.length_map] at r1
 obtain ⟨j,rfl⟩:=Int.eq_ofNat_of_zero_le r0
 have hj:j < zs.length:=by omega
 have e2:=o2 _ _ e1 (pJ p1 e1) nl
 refine ⟨l,_,_,_,rfl,rfl,SqL.of e2,aW (j:=j) (by rw [List.getElem?_map,cG hj]; rfl),k _ H2 (hin _ (List.getElem_mem hj)) p2 (o1.trans o2)⟩
end
structure Ny (L R:List Prt) (ks:List Lnk) (al:Nms):Prop where
 mo:∀ p∈L++R,p.2.2.Pairwise (· < ·)∧p.2.2.length≤60
 lL:L.length≤60
 lR:R.length≤60
 gl:∀ k∈ks,n8 k
 up:ks.Pairwise fun a b=>dlt (bY a) (bY b)=true
 lk:ks.length≤60
 kn:∀ k∈ks,k.1.length≤60∧k.2.1.length≤60∧k.2.2.2.1.length≤60∧k.2.2.2.2.length≤60
 ga:wK al
 la:al.length≤60
theorem Fi {α:Type} {f:α→D} {xs:List α} (h:xs.Pairwise fun a b=>dlt (f a) (f b)=true):UpD (xs.map f):=by
 unfold UpD
 rw [List.pairwise_map]
 refine h.imp fun {a b} h=>?_
 cases z:dlt (f b) (f a) with
 | false=>rfl
 | true =>
  have:=vV _ _ _ h z
  rw [tu] at this
  cases this
theorem Pb (M:Md) (n:Nat):M.ln n=M.l0∨M.ln n=M.l1:=by
 unfold Md.ln
 split
 ·exact .inl rfl
 ·exact .inr rfl
theorem Ly {L R:List Prt} {n:Nat} {p:Prt} (h:p∈sdP n L R):p∈L++R:=by
 unfold sdP at h
 split at h
 ·exact List.mem_append_left _ h
 ·exact List.mem_append_right _ h
theorem K6:∀ {ms ks:List Int},ms.Nodup→(∀ k∈ms,k∈ks)→ms.length≤ks.length
 | [],_,_,_=>Nat.zero_le _
 | a :: r,ks,h,s=>by
  have h':=List.nodup_cons.mp h
  have ih:=K6 (ks:=ks.erase a) h'.2 fun k hk=>(List.mem_erase_of_ne (fun (z:k=a)=>h'.1 (by rw [← z]; exact hk))).mpr (s k (.tail _ hk))
  rw [List.length_erase_of_mem (s a (.head _))] at ih
  have:0 < ks.length:=List.length_pos_of_mem (s a (.head _))
  rw [List.length_cons]
  omega
theorem iZ.grow {S:List Addr} {H:Hp} {M:Md} {L R:List Prt} {ks:List Lnk} {al:Nms} {a:Addr} (h:iZ S H M L R ks al) (ha:H a=none):iZ (a :: S) H M L R ks al:=by
 have ne:∀ {b:Addr} {o:HO},H b=some o→b≠a:=fun e=>aB e ha
 have tt:∀ {b:Addr} {o:HO},H b=some o→b ∉ M.W++S→b ∉ M.W++(a :: S):=fun e n z=>by
  simp only [List.mem_append,List.mem_cons,not_or] at n z
  rcases z with z | z | z
  ·exact n.1 z
  ·exact ne e z
  ·exact n.2 z
 obtain ⟨kt,et,_⟩:=h.t.ex
 obtain ⟨kw,ew,hwl,hWl,hkw⟩:=h.w.ex
 obtain ⟨us,eu,hul,hus⟩:=h.lk.ex
 refine ⟨h.m,h.t,h.w,h.lr,h.l0,h.l1,⟨us,eu,hul,fun i u k hu hk=>?_⟩,h.la,fun b hb z=>?_,h.nd,fun b hb=>⟨fun z=>?_,(h.wo b hb).2⟩,h.wn⟩
 ·obtain ⟨q,c1,c2,c3,c4,e,n1,n2,n3,n4,n5,e1,e2,e3,e4,e5⟩:=(hus i u k hu hk).ex
  exact ⟨q,c1,c2,c3,c4,e,tt e1 n1,tt e2 n2,tt e3 n3,tt e4 n4,tt e5 n5,e1,e2,e3,e4,e5⟩
 ·rcases List.mem_cons.mp z with z | z
  ·have:∃ o,H b=some o:=by
    simp only [Md.all,List.mem_cons,List.not_mem_nil,or_false] at hb
    rcases hb with rfl | rfl | rfl | rfl | rfl | rfl | rfl | rfl
    ·exact ⟨_,h.m⟩
    ·exact ⟨_,et⟩
    ·exact ⟨_,ew⟩
    ·exact ⟨_,h.lr⟩
    ·exact ⟨_,h.l0⟩
    ·exact ⟨_,h.l1⟩
    ·exact ⟨_,eu⟩
    ·exact ⟨_,h.la⟩
   obtain ⟨o,ho⟩:=this
   exact ne ho z
  ·exact h.off b hb z
 ·rcases List.mem_cons.mp z with z | z
  ·obtain ⟨i,hi⟩:=List.mem_iff_getElem?.mp hb
   have hil:i < (L++R).length:=by rw [← hWl]; exact (List.getElem?_eq_some_iff.mp hi).1
   obtain ⟨l,ws,g1,g2,g3,_⟩:=hkw i _ (cG hil)
   rw [hi] at g1
   exact ne g3 (by rw [← Option.some.inj g1]; exact z)
  ·exact (h.wo b hb).1 z
def But (a:Addr) (H H':Hp):Prop:=∀ c o,H c=some o→c≠a→H' c=some o
theorem But.keep {a:Addr} {S:List Addr} {H H':Hp} (h:But a H H'):Keep (a :: S) H H':=fun c o e n=>h c o e fun z=>n (by rw [z]; exact .head _)
theorem But.tup {a:Addr} {H H':Hp} {us:List V} (h:But a H H') (ha:H a=some (.lst us)):∀ (b:Addr) (vs:List V),H b=some (.tup vs)→H' b=some (.tup vs):=fun b vs e=>h b _ e (iC e ha (by intro z; cases z))
theorem But.trans {a:Addr} {H H1 H2:Hp} (h:But a H H1) (g:But a H1 H2):But a H H2:=fun c o e n=>g c o (h c o e n) n
theorem But.of {a:Addr} {H H':Hp} (s:Same H H'):But a H H':=fun c o e _=>s c o e
theorem But.upd {a:Addr} {H:Hp} (o:HO):But a H (upd H a o):=fun c u e n=>by rw [aF n]; exact e
theorem But.same {a:Addr} {H0 H H':Hp} (s:Same H0 H) (ha:H0 a=none) (h:But a H H'):Same H0 H':=fun c o e=>h c o (s c o e) (aB e ha)
theorem jh {ms ns:List Int} {ks:List Int} (hm:ms.Nodup) (hi:∀ k,k∈ms↔k∈ks) (hp:ns.Perm ms) (hs:ns.Pairwise (· ≤ ·)) (hk:ks.Pairwise (· < ·)):ns=ks :=
 Bv hk hs (hp.nodup_iff.mpr hm) fun k=>(hp.mem_iff).trans (hi k)
def vo:Sp:=fun vs H Q _=>∃ (S:List Addr) (M:Md) (L R:List Prt) (ks:List Lnk) (al:Nms),vs=[.ref M.m]∧iZ S H M L R ks al∧M.b≤500∧Ny L R ks al∧∀ (u:V) (H':Hp),Same H H'→Den H' u (cU L R ks al)→Q u H'
section
variable {P:Program} {w:World} {K:PySem.W.Frag} {mg:Str→Option Value} {base:Heap}
theorem cj:aQ ["_law_model_here", "_law_sides_here", "_law_row", "_law_parts", "_law_name", "_law_moments_here", "_law_links", "_law_ones", "_law_others", "_law_told", "_law_left", "_law_right", "_law_lost"] ["_law_model_here"] (aC pA):=⟨rfl,rfl,rfl,by decide +kernel,rfl,by decide +kernel,by decide +kernel⟩
theorem yh (h:Has K mg "_law_as_book" pA ["_law_model_here"]) (m_tuple:mg "tuple" = none) (m_sorted:mg "sorted" = none) (m_set:mg "set" = none):Cal P w K mg base "_law_as_book" 1 ["_law_model_here"] vo:=by
 refine h.mk' cj (fun vs H Q E hs=>?_) (fun f cdv A outer s H vs Q E hr hs=>?_)
 ·obtain ⟨S,M,L,R,ks,al,rfl,_⟩:=hs
  rfl
 obtain ⟨S,M,L,R,ks,al,rfl,hM,hB,hT,k⟩:=hs
 refine ⟨_,(au (aH (i:=1) cj.nd rfl (Or.inl rfl) (bV ao))
  (au (dB PassesOwn.never rfl (jw (bA (bL hr) (pv 0) aG (fun _ _=>rfl))) (aO (i:=2) cj.nd rfl (Or.inl rfl))
   (au (aH (i:=3) cj.nd rfl (Or.inl rfl) (bV ao))
  (au (dB PassesOwn.never rfl (jw (pv 2)) (aO (i:=4) cj.nd rfl (Or.inl rfl))
   (au (aH (i:=5) cj.nd rfl (Or.inl rfl) (aM aL rfl m_tuple boot_tuple (aj (aP (cW (w:=w) rfl rfl hr.units) rfl m_sorted boot_sorted (aj (aM (jy (w:=w) rfl rfl) rfl m_set boot_set (aj (bA (bL hr) (bA (bL hr) (pv 0) aG (fun _ _=>rfl)) (pv 4) (fun _ _=>rfl)) ao)) ao)) ao)))
  (aD (dO (gB PySem.F.plainAttrs_list PySem.F.slot_list_append PySem.F.type_list_append bN (pv 3) (aj (cB (aj (pv 4) (aj (bA (bL hr) (bA (bL hr) (pv 0) aG (fun _ _=>rfl)) (pv 4) (fun _ _=>rfl)) (aj (pv 5) ao)))) ao))))))
  (aD (dO (gB PySem.F.plainAttrs_list PySem.F.slot_list_append PySem.F.type_list_append bN (pv 1) (aj (aM aL rfl m_tuple boot_tuple (aj (pv 3) ao)) ao)))))))
  (au (aH (i:=6) cj.nd rfl (Or.inl rfl) (bV ao))
  (au (dB PassesOwn.never rfl (jw (bA (bL hr) (pv 0) aG (fun _ _=>rfl))) (MJ rfl (bR (aO (i:=7) cj.nd rfl (Or.inl rfl)) (bR (aO (i:=8) cj.nd rfl (Or.inl rfl)) (bR (aO (i:=9) cj.nd rfl (Or.inl rfl)) (bR (aO (i:=10) cj.nd rfl (Or.inl rfl)) (bR (aO (i:=11) cj.nd rfl (Or.inl rfl)) kI))))))
   (au (aH (i:=12) cj.nd rfl (Or.inl rfl) (cB (aj (aM aL rfl m_tuple boot_tuple (aj (aP (cW (w:=w) rfl rfl hr.units) rfl m_sorted boot_sorted (aj (aM (jy (w:=w) rfl rfl) rfl m_set boot_set (aj (pv 10) ao)) ao)) ao)) (aj (aM aL rfl m_tuple boot_tuple (aj (aP (cW (w:=w) rfl rfl hr.units) rfl m_sorted boot_sorted (aj (aM (jy (w:=w) rfl rfl) rfl m_set boot_set (aj (pv 11) ao)) ao)) ao)) ao))))
  (aD (dO (gB PySem.F.plainAttrs_list PySem.F.slot_list_append PySem.F.type_list_append bN (pv 6) (aj (cB (aj (aM aL rfl m_tuple boot_tuple (aj (aP (bZ hr.units) rfl m_sorted boot_sorted (aj (pv 7) ao)) ao)) (aj (aM aL rfl m_tuple boot_tuple (aj (aP (bZ hr.units) rfl m_sorted boot_sorted (aj (pv 8) ao)) ao)) (aj (pv 9) (aj (pv 12) ao))))) ao))))))
  (aD (aV (cB (aj (aY bQ (pv 1) aA (fun _ _=>rfl)) (aj (aY bQ (pv 1) aA (fun _ _=>rfl)) (aj (aM aL rfl m_tuple boot_tuple (aj (aP (bZ hr.units) rfl m_sorted boot_sorted (aj (pv 6) ao)) ao)) (aj (aM aL rfl m_tuple boot_tuple (aj (aP (bZ hr.units) rfl m_sorted boot_sorted (aj (bA (bL hr) (pv 0) aG (fun _ _=>rfl)) ao)) ao)) ao))))))))))),?_⟩
 refine ⟨smn 0,fun ls hls=>gN ?_⟩
 have s1:=aq hls (.lst [])
 have e1:(upd H ls (.lst [])) ls=some (.lst []):=ak
 generalize upd H ls (.lst [])=H1 at s1 e1 ⊢
 have hM1:=(hM.grow hls).same s1
 refine ⟨_,rfl,M.m,_,rfl,uP hM1.m,M.lr,rfl,⟨_,SqL.of hM1.lr⟩,?_⟩
 have nlr:M.lr≠ls:=fun z=>hM1.off M.lr (by simp [Md.all]) (by rw [z]; exact .head _)
 refine jV (K:=K) (a:=M.lr) (xs:=[V.ref M.l0,V.ref M.l1]) (fun i σ H2=>∃ (v2 v3 v4 v5:Option V) (us:List V),σ=[some (.ref M.m),some (.ref ls),v2,v3,v4,v5,none,none,none,none,none,none,none]∧But ls H1 H2∧H2 ls=some (.lst us)∧us.length=i∧bI H2 us ([D.tup (L.map bw),D.tup (R.map bw)].take i)) ⟨_,_,_,_,[],rfl,.of (Same.refl _),e1,rfl,trivial⟩ ?_ ?_ ?_
 ·rintro i σ H2 _ ⟨_,_,_,_,_,_,b2,_⟩
  exact SqL.of (b2 _ _ hM1.lr nlr)
 ·rintro i y σ H2 hi ⟨v2,v3,v4,v5,us,rfl,b2,e2,hul,d2⟩
  obtain ⟨hi1,rfl⟩:i≤1∧y=.ref (M.ln i):=by
   match i,hi with
   | 0,hi=>exact ⟨by omega,(Option.some.inj hi).symm⟩
   | 1,hi=>exact ⟨by omega,(Option.some.inj hi).symm⟩
  have hM2:=hM1.keep b2.keep
  refine JT fun E1 hE1=>gN ⟨smn 0,fun lp hlp=>gN ?_⟩
  have s3:=aq hlp (.lst [])
  have e3:(upd H2 lp (.lst [])) lp=some (.lst []):=ak
  have nlp:ls≠lp:=aB e2 hlp
  generalize upd H2 lp (.lst [])=H3 at s3 e3 ⊢
  have hM3:=(hM2.grow hlp).same s3
  obtain ⟨_,hrow⟩:=Cr hM3 hi1
  have hZl:(sdP i L R).length≤60:=by have:=hT.lL; have:=hT.lR; unfold sdP; split <;> omega
  have nrow:M.ln i≠lp:=fun z=>by
   rcases Pb M i with e | e
   ·exact hM3.off M.l0 (by simp [Md.all]) (by rw [← e,z]; exact .head _)
   ·exact hM3.off M.l1 (by simp [Md.all]) (by rw [← e,z]; exact .head _)
  obtain ⟨kt,et,_,hkt,_⟩:=hM3.t.ex
  obtain ⟨kw,ew,_,_,hkw⟩:=hM3.w.ex
  have hsub:∀ p∈sdP i L R,p∈L++R:=fun p h=>Ly h
  refine ⟨_,rfl,M.ln i,rfl,⟨_,SqL.of hrow⟩,?_⟩
  generalize hZ:sdP i L R=Z at *
  refine jV (K:=K) (a:=M.ln i) (xs:=bG Z) (fun j σ H4=>∃ (v4 v5:Option V) (ps:List V),σ=[some (.ref M.m),some (.ref ls),some (.ref (M.ln i)),some (.ref lp),v4,v5,none,none,none,none,none,none,none]∧But lp H3 H4∧H4 lp=some (.lst ps)∧ps.length=j∧bI H4 ps ((Z.take j).map bw)) ⟨_,_,[],rfl,.of (Same.refl _),e3,rfl,trivial⟩ ?_ ?_ ?_
  ·rintro j σ H4 _ ⟨_,_,_,_,b4,_⟩
   exact SqL.of (b4 _ _ hrow nrow)
  ·rintro j y σ H4 hj ⟨v4,v5,ps,rfl,b4,e4,hpl,d4⟩
   have hjl:j < Z.length:=by
    have:=(List.getElem?_eq_some_iff.mp hj).1
    unfold bG at this
    rwa [List.length_map] at this
   have ey:y=mkT Z[j].1:=by
    unfold bG at hj
    rw [List.getElem?_map,cG hjl] at hj
    exact (Option.some.inj hj).symm
   have hq:=hsub _ (List.getElem_mem hjl)
   have htk:=take_one (cG hjl)
   generalize Z[j]=q at ey hq htk
   subst ey
   have hM4:=hM3.keep b4.keep
   have hmo:=hT.mo q hq
   obtain ⟨iq,hiq⟩:=List.mem_iff_getElem?.mp hq
   obtain ⟨lw,ws,w0,w1,w3,w4,w5⟩:=hkw iq q hiq
   have w2:=(hM3.wo lw (List.mem_of_getElem? w0)).1
   have ew4:=b4 _ _ ew (fun z=>hM3.off M.dw (by simp [Md.all]) (by rw [z]; exact .head _))
   have et4:=b4 _ _ et (fun z=>hM3.off M.dt (by simp [Md.all]) (by rw [z]; exact .head _))
   have w34:=b4 _ _ w3 (fun z=>w2 (by rw [z]; exact .head _))
   have hgw:dU H4 M.dw (mkT q.1) (some (.ref lw)):=by rw [← w1]; exact dU.k (k:=nk q.1) ew4
   refine JT fun E2 hE2=>gN ⟨_,rfl,M.m,_,rfl,Gj hM4.m,_,rfl,M.dw,_,rfl,hgw,lw,ws,rfl,SqL.of w34,by omega,fun sa ms hsa hnd hmem hml=>⟨sa,ms,rfl,ak,(by have:=K6 hnd fun k hk=>(w5 k).mp ((hmem k).mp hk); omega),fun lo ns hlo hperm hsort=>⟨lo,_,rfl,.inl ⟨SqL.of ak,fun tq htq=>?_⟩⟩⟩⟩
   have hns:ns=q.2.2:=jh hnd (fun k=>(hmem k).trans (w5 k)) hperm hsort hmo.1
   subst hns
   have s5:=((aq hsa (.ext (intΦ w sa ms))).trans (aq hlo (.lst (q.2.2.map V.int)))).trans (aq htq (.tup (q.2.2.map V.int)))
   have e5:(upd (upd (upd H4 sa (.ext (intΦ w sa ms))) lo (.lst (q.2.2.map V.int))) tq (.tup (q.2.2.map V.int))) tq=some (.tup (q.2.2.map V.int)):=ak
   generalize upd (upd (upd H4 sa (.ext (intΦ w sa ms))) lo (.lst (q.2.2.map V.int))) tq (.tup (q.2.2.map V.int))=H5 at s5 e5 ⊢
   have hM5:=hM4.same s5
   have hgt:dU H5 M.dt (mkT q.1) (some (mkT q.2.1)):=by rw [← hkt q hq]; exact dU.k (k:=nk q.1) (s5 _ _ et4)
   refine ⟨_,rfl,.inl ⟨rfl,_,SqL.of (s5 _ _ e4)⟩,_,rfl,_,rfl,M.m,_,rfl,vB hM5.m,_,rfl,M.dt,_,rfl,hgt,_,rfl,smn 3,fun t ht=>?_⟩
   have s6:=aq ht (.tup [mkT q.1,mkT q.2.1,.ref tq])
   have e6:(upd H5 t (.tup [mkT q.1,mkT q.2.1,.ref tq])) t=some (.tup [mkT q.1,mkT q.2.1,.ref tq]):=ak
   generalize upd H5 t (.tup [mkT q.1,mkT q.2.1,.ref tq])=H6 at s6 e6 ⊢
   have e46:=s6 _ _ (s5 _ _ e4)
   refine ⟨lp,ps,_,rfl,rfl,e46,aJ (by omega),hE2.n _ _ ⟨_,_,ps++[.ref t],rfl,(b4.trans (.of (s5.trans s6))).trans (.upd _),ak,by rw [List.length_append,hpl]; rfl,?_⟩⟩
   rw [htk,List.map_append]
   exact dG (((d4.same s5).same s6).keepT (iW e46)) ⟨⟨t,_,rfl,iW e46 _ _ e6,rfl,rfl,⟨tq,_,rfl,iW e46 _ _ (s6 _ _ e5),fG _ _⟩,trivial⟩,trivial⟩
  ·rintro σ H4 ⟨v4,v5,ps,rfl,b4,e4,hpl,d4⟩
   have hnl:(bG Z).length=Z.length:=by unfold bG; rw [List.length_map]
   rw [hnl,List.take_length] at d4
   have e24:=b4 _ _ (s3 _ _ e2) nlp
   refine ⟨_,rfl,.inl ⟨rfl,_,SqL.of e24⟩,_,rfl,lp,_,rfl,.inl ⟨SqL.of e4,fun tp htp=>?_⟩⟩
   have s5:=aq htp (.tup ps)
   have e5:(upd H4 tp (.tup ps)) tp=some (.tup ps):=ak
   generalize upd H4 tp (.tup ps)=H5 at s5 e5 ⊢
   have e25:=s5 _ _ e24
   have d25:bI H5 us ([D.tup (L.map bw),D.tup (R.map bw)].take i):=(((d2.same s3).keepT (b4.tup e3)).same s5)
   have htk:[D.tup (L.map bw),D.tup (R.map bw)].take (i+1)=[D.tup (L.map bw),D.tup (R.map bw)].take i++[D.tup (Z.map bw)]:=by
    rw [← hZ]
    match i,hi1 with
    | 0,_=>rfl
    | 1,_=>rfl
   refine ⟨ls,us,_,rfl,rfl,e25,aJ (by omega),hE1.n _ _ ⟨_,_,_,_,us++[.ref tp],rfl,fun c o e n=>?_,ak,by rw [List.length_append,hul]; rfl,?_⟩⟩
   ·rw [aF n]
    have h2:=b2 c o e n
    exact s5 _ _ (b4 _ _ (s3 _ _ h2) (aB h2 hlp))
   ·rw [htk]
    exact dG (d25.keepT (iW e25)) ⟨⟨tp,_,rfl,iW e25 _ _ e5,(d4.same s5).keepT (iW e25)⟩,trivial⟩
 ·rintro σ H2 ⟨v2,v3,v4,v5,us,rfl,b2,e2,hul,d2⟩
  obtain ⟨u0,u1,rfl⟩:∃ u0 u1,us=[u0,u1]:=by
   match us,hul with
   | [u0,u1],_=>exact ⟨u0,u1,rfl⟩
  have d0:Den H2 u0 (.tup (L.map bw)):=d2.1
  have d1:Den H2 u1 (.tup (R.map bw)):=d2.2.1
  have hM2:=hM1.keep b2.keep
  have s02:Same H H2:=But.same s1 hls b2
  clear d2 b2
  refine ⟨smn 0,fun lk hlk=>gN ?_⟩
  have s3:=aq hlk (.lst [])
  have e3:(upd H2 lk (.lst [])) lk=some (.lst []):=ak
  have nlk:ls≠lk:=aB e2 hlk
  generalize upd H2 lk (.lst [])=H3 at s3 e3 ⊢
  have hM3:=(hM2.grow hlk).same s3
  obtain ⟨ws,ewl,hwl,hws⟩:=hM3.lk.ex
  have nMlk:M.lk≠lk:=fun z=>hM3.off M.lk (by simp [Md.all]) (by rw [z]; exact .head _)
  refine ⟨_,rfl,M.m,_,rfl,Ia hM3.m,M.lk,rfl,⟨_,SqL.of ewl⟩,?_⟩
  refine jV (K:=K) (a:=M.lk) (xs:=ws) (fun i σ H4=>∃ (v7 v8 v9 v10 v11 v12:Option V) (ps:List V),σ=[some (.ref M.m),some (.ref ls),v2,v3,v4,v5,some (.ref lk),v7,v8,v9,v10,v11,v12]∧But lk H3 H4∧H4 lk=some (.lst ps)∧ps.length=i∧bI H4 ps ((ks.take i).map bY)) ⟨_,_,_,_,_,_,[],rfl,.of (Same.refl _),e3,rfl,trivial⟩ ?_ ?_ ?_
  ·rintro i σ H4 _ ⟨_,_,_,_,_,_,_,_,b4,_⟩
   exact SqL.of (b4 _ _ ewl nMlk)
  ·rintro i y σ H4 hi ⟨v7,v8,v9,v10,v11,v12,ps,rfl,b4,e4,hpl,d4⟩
   have hil:i < ks.length:=by
    have:=(List.getElem?_eq_some_iff.mp hi).1
    omega
   obtain ⟨q,a,b,c,d,rfl,n1,n2,n3,n4,n5,f1,f2,f3,f4,f5⟩:=(hws i y _ hi (cG hil)).ex
   have hg:=hT.gl _ (List.getElem_mem hil)
   have hkn:=hT.kn _ (List.getElem_mem hil)
   have htk:=take_one (cG hil)
   generalize ks[i]=kk at f1 f2 f3 f4 f5 hg hkn htk
   have kp:∀ {x:Addr} {o:HO},H3 x=some o→x ∉ M.W++lk :: ls :: S→H4 x=some o:=fun e n=>b4 _ _ e fun z=>n (by rw [z]; simp)
   have f1:=kp f1 n1
   have f2:=kp f2 n2
   have f3:=kp f3 n3
   have f4:=kp f4 n4
   have f5:=kp f5 n5
   refine JT fun E1 hE1=>⟨q,_,rfl,SqL.of f1,rfl,_,_,rfl,_,_,rfl,_,_,rfl,_,_,rfl,_,_,rfl,rfl,?_⟩
   refine ⟨_,rfl,c,_,rfl,SqL.of f4,by omega,fun sa ms hsa hnd hmem hml=>⟨sa,ms,rfl,ak,by omega,fun lo ns hlo hperm hsort=>⟨lo,_,rfl,.inl ⟨SqL.of ak,fun t1 ht1=>?_⟩⟩⟩⟩
   have hns:ns=kk.2.2.2.1:=jh hnd hmem hperm hsort hg.2.2.2.2.2.2.1.2.1
   subst hns
   have s5:=((aq hsa (.ext (intΦ w sa ms))).trans (aq hlo (.lst (kk.2.2.2.1.map V.int)))).trans (aq ht1 (.tup (kk.2.2.2.1.map V.int)))
   have e5:(upd (upd (upd H4 sa (.ext (intΦ w sa ms))) lo (.lst (kk.2.2.2.1.map V.int))) t1 (.tup (kk.2.2.2.1.map V.int))) t1=some (.tup (kk.2.2.2.1.map V.int)):=ak
   generalize upd (upd (upd H4 sa (.ext (intΦ w sa ms))) lo (.lst (kk.2.2.2.1.map V.int))) t1 (.tup (kk.2.2.2.1.map V.int))=H5 at s5 e5 ⊢
   clear hsa hlo ht1 hnd hmem hml hperm hsort
   refine ⟨_,rfl,d,_,rfl,SqL.of (s5 _ _ f5),by omega,fun sa ms hsa hnd hmem hml=>⟨sa,ms,rfl,ak,by omega,fun lo ns hlo hperm hsort=>⟨lo,_,rfl,.inl ⟨SqL.of ak,fun t2 ht2=>?_⟩⟩⟩⟩
   have hns:ns=kk.2.2.2.2:=jh hnd hmem hperm hsort hg.2.2.2.2.2.2.2.2.1
   subst hns
   have s6:=((aq hsa (.ext (intΦ w sa ms))).trans (aq hlo (.lst (kk.2.2.2.2.map V.int)))).trans (aq ht2 (.tup (kk.2.2.2.2.map V.int)))
   have e6:(upd (upd (upd H5 sa (.ext (intΦ w sa ms))) lo (.lst (kk.2.2.2.2.map V.int))) t2 (.tup (kk.2.2.2.2.map V.int))) t2=some (.tup (kk.2.2.2.2.map V.int)):=ak
   generalize upd (upd (upd H5 sa (.ext (intΦ w sa ms))) lo (.lst (kk.2.2.2.2.map V.int))) t2 (.tup (kk.2.2.2.2.map V.int))=H6 at s6 e6 ⊢
   clear hsa hlo ht2 hnd hmem hml hperm hsort
   refine ⟨smn 2,fun t3 ht3=>?_⟩
   have s7:=aq ht3 (.tup [.ref t1,.ref t2])
   have e7:(upd H6 t3 (.tup [.ref t1,.ref t2])) t3=some (.tup [.ref t1,.ref t2]):=ak
   generalize upd H6 t3 (.tup [.ref t1,.ref t2])=H7 at s7 e7 ⊢
   have s47:=(s5.trans s6).trans s7
   have dl:Den H7 (.ref t3) (.tup [CJ kk.2.2.2.1,CJ kk.2.2.2.2]):=⟨t3,_,rfl,e7,⟨t1,_,rfl,(s6.trans s7) _ _ e5,fG _ _⟩,⟨t2,_,rfl,s7 _ _ e6,fG _ _⟩,trivial⟩
   refine ⟨_,rfl,.inl ⟨rfl,_,SqL.of (s47 _ _ e4)⟩,_,rfl,a,_,_,rfl,.inl (SqL.of (s47 _ _ f2)),cO _ kk.1,fX kk.1,by rw [List.length_map]; omega,fun x hx=>?_,fun l8 us8 ds8 hl8 pm8 up8 dn8=>⟨l8,_,rfl,.inl ⟨SqL.of ak,fun t4 ht4=>?_⟩⟩⟩
   ·obtain ⟨y,_,rfl⟩:=List.mem_map.mp hx
    exact dF (n:=0) (dD _) 50
   have hd8:=gK up8 (Fi hg.1.2.1) pm8
   subst hd8
   have hu8:=Dp dn8
   subst hu8
   have s8:=(aq hl8 (.lst (kk.1.map mkT))).trans (aq ht4 (.tup (kk.1.map mkT)))
   have e8:(upd (upd H7 l8 (.lst (kk.1.map mkT))) t4 (.tup (kk.1.map mkT))) t4=some (.tup (kk.1.map mkT)):=ak
   generalize upd (upd H7 l8 (.lst (kk.1.map mkT))) t4 (.tup (kk.1.map mkT))=H8 at s8 e8 ⊢
   have s48:=s47.trans s8
   refine ⟨_,rfl,b,_,_,rfl,.inl (SqL.of (s48 _ _ f3)),cO _ kk.2.1,fX kk.2.1,by rw [List.length_map]; omega,fun x hx=>?_,fun l9 us9 ds9 hl9 pm9 up9 dn9=>⟨l9,_,rfl,.inl ⟨SqL.of ak,fun t5 ht5=>?_⟩⟩⟩
   ·obtain ⟨y,_,rfl⟩:=List.mem_map.mp hx
    exact dF (n:=0) (dD _) 50
   have hd9:=gK up9 (Fi hg.2.1.2.1) pm9
   subst hd9
   have hu9:=Dp dn9
   subst hu9
   have s9:=(aq hl9 (.lst (kk.2.1.map mkT))).trans (aq ht5 (.tup (kk.2.1.map mkT)))
   have e9:(upd (upd H8 l9 (.lst (kk.2.1.map mkT))) t5 (.tup (kk.2.1.map mkT))) t5=some (.tup (kk.2.1.map mkT)):=ak
   generalize upd (upd H8 l9 (.lst (kk.2.1.map mkT))) t5 (.tup (kk.2.1.map mkT))=H9 at s9 e9 ⊢
   refine ⟨_,rfl,_,rfl,smn 4,fun t6 ht6=>?_⟩
   have sa:=aq ht6 (.tup [.ref t4,.ref t5,.int kk.2.2.1,.ref t3])
   have ea:(upd H9 t6 (.tup [.ref t4,.ref t5,.int kk.2.2.1,.ref t3])) t6=some (.tup [.ref t4,.ref t5,.int kk.2.2.1,.ref t3]):=ak
   generalize upd H9 t6 (.tup [.ref t4,.ref t5,.int kk.2.2.1,.ref t3])=Ha at sa ea ⊢
   have s9a:=s9.trans sa
   have s4a:=s48.trans s9a
   have e4a:=s4a _ _ e4
   have dk:Den Ha (.ref t6) (bY kk):=⟨t6,_,rfl,ea,⟨t4,_,rfl,s9a _ _ e8,cO _ _⟩,⟨t5,_,rfl,sa _ _ e9,cO _ _⟩,rfl,dl.same (s8.trans s9a),trivial⟩
   refine ⟨lk,ps,_,rfl,rfl,e4a,aJ (by have:=hT.lk; omega),hE1.n _ _ ⟨_,_,_,_,_,_,ps++[.ref t6],rfl,(b4.trans (.of s4a)).trans (.upd _),ak,by rw [List.length_append,hpl]; rfl,?_⟩⟩
   rw [htk,List.map_append]
   exact dG ((d4.same s4a).keepT (iW e4a)) ⟨dk.keepT (iW e4a),trivial⟩
  ·rintro σ H4 ⟨v7,v8,v9,v10,v11,v12,ps,rfl,b4,e4,hpl,d4⟩
   rw [hwl,List.take_length] at d4
   have hlks:=hT.lk
   have els:=b4 _ _ (s3 _ _ e2) nlk
   have hM4:=hM3.keep b4.keep
   have k4:∀ (b:Addr) (vs:List V),H2 b=some (.tup vs)→H4 b=some (.tup vs):=fun b vs e=>b4.tup e3 _ _ (s3 _ _ e)
   have s04:Same H H4:=fun x o e=>b4 _ _ (s3 _ _ (s02 _ _ e)) (aB (s02 _ _ e) hlk)
   refine ⟨_,rfl,ls,_,_,_,rfl,rfl,SqL.of els,bx _ _,_,rfl,ls,_,_,_,rfl,rfl,SqL.of els,aW (xs:=[u0,u1]) (j:=1) rfl,?_⟩
   refine ⟨_,rfl,lk,ps,_,rfl,.inl (SqL.of e4),d4,qK ks,by rw [List.length_map]; omega,fun x hx=>?_,fun l5 us5 ds5 hl5 pm5 up5 dn5=>⟨l5,_,rfl,.inl ⟨SqL.of ak,fun t5 ht5=>?_⟩⟩⟩
   ·obtain ⟨y,hy,rfl⟩:=List.mem_map.mp hx
    exact show eO 50 _ from dF (n:=3) (mC (hT.gl y hy)) 47
   have hd5:=gK up5 (Fi hT.up) pm5
   subst hd5
   have s5:=(aq hl5 (.lst us5)).trans (aq ht5 (.tup us5))
   have e5:(upd (upd H4 l5 (.lst us5)) t5 (.tup us5)) t5=some (.tup us5):=ak
   generalize upd (upd H4 l5 (.lst us5)) t5 (.tup us5)=H5 at s5 e5 ⊢
   have hM5:=hM4.same s5
   have hala:=hT.la
   refine ⟨_,rfl,M.m,_,rfl,Jf hM5.m,M.la,_,_,rfl,.inl (SqL.of hM5.la),cO _ al,fX al,by rw [List.length_map]; omega,fun x hx=>?_,fun l6 us6 ds6 hl6 pm6 up6 dn6=>⟨l6,_,rfl,.inl ⟨SqL.of ak,fun t6 ht6=>⟨smn 4,fun t ht=>?_⟩⟩⟩⟩
   ·obtain ⟨y,_,rfl⟩:=List.mem_map.mp hx
    exact dF (n:=0) (dD _) 50
   have hd6:=gK up6 (Fi hT.ga.2.1) pm6
   subst hd6
   have hu6:=Dp dn6
   subst hu6
   have s6:=(aq hl6 (.lst (al.map mkT))).trans (aq ht6 (.tup (al.map mkT)))
   have e6:(upd (upd H5 l6 (.lst (al.map mkT))) t6 (.tup (al.map mkT))) t6=some (.tup (al.map mkT)):=ak
   generalize upd (upd H5 l6 (.lst (al.map mkT))) t6 (.tup (al.map mkT))=H6 at s6 e6 ht ⊢
   have s7:=aq ht (.tup [u0,u1,.ref t5,.ref t6])
   have s67:=s6.trans s7
   have s47:=s5.trans s67
   exact k (.ref t) _ (s04.trans s47) ⟨t,_,rfl,ak,(d0.keepT k4).same s47,(d1.keepT k4).same s47,⟨t5,_,rfl,s67 _ _ e5,(dn5.same s5).same s67⟩,⟨t6,_,rfl,s7 _ _ e6,cO _ _⟩,trivial⟩
end
theorem uV {κ:Type} [DecidableEq κ] (kvs:List (κ × V)) (k:κ) (v:V):(putK kvs k v).length≤kvs.length+1:=by
 unfold putK
 split
 ·rw [List.length_map]; omega
 ·rw [List.length_append]; exact Nat.le_refl _
structure WhN (S T:List Addr) (H:Hp) (dw:Addr) (W:List Addr) (P:List Prt):Prop where
 w:Jy H dw W 60 P
 nd:W.Nodup
 fr:∀ a∈W,a ∉ S∧a ∉ T
theorem Jy.row {H:Hp} {dw:Addr} {W:List Addr} {B:Nat} {P:List Prt} (h:Jy H dw W B P) {a:Addr} (ha:a∈W):∃ vs,H a=some (.lst vs):=by
 obtain ⟨kt,e,hn,hw,f⟩:=h.ex
 obtain ⟨i,hi⟩:=List.mem_iff_getElem?.mp ha
 have hil:i < P.length:=by rw [← hw]; exact (List.getElem?_eq_some_iff.mp hi).1
 obtain ⟨l,ws,g1,g2,g3,_⟩:=f i _ (cG hil)
 rw [hi] at g1
 exact ⟨_,by rw [Option.some.inj g1]; exact g3⟩
def Bh:Sp:=fun vs H Q _=>∃ (S:List Addr) (v:V) (L R:List Prt) (ks:List Lnk) (al:Nms),vs=[v]∧Den H v (cU L R ks al)∧(∀ a∈S,∃ o,H a=some o)∧L.length≤60∧R.length≤60∧ks.length≤900∧((L++R).map (·.1)).Nodup∧(∀ p∈L++R,p.2.2.length≤60) ∧
 ∀ (M:Md) (H':Hp),Same H H'→M.b=60→iZ S H' M L R ks al→Q (.ref M.m) H'
def md0 (dt dw:Addr):List (Key × V):=[(Sum.inr "text",.ref dt),(Sum.inr "when",.ref dw)]
def md1 (dt dw lr:Addr):List (Key × V):=[(Sum.inr "text",.ref dt),(Sum.inr "when",.ref dw),(Sum.inr "rows",.ref lr)]
theorem Qj:Str.ofString "when" ≠ Str.ofString "text":=by decide +kernel
theorem Fb (dt dw:Addr):gj [] (md0 dt dw)=md0 dt dw:=by
 unfold md0
 simp [gj,putK,Qj,Ne.symm Qj]
theorem sE {kvs:List (Key × V)} {k:Key} {v:V} (h:∀ kv∈kvs,kv.1≠k):putK kvs k v=kvs++[(k,v)]:=by
 unfold putK
 rw [if_neg]
 intro z
 rw [List.any_eq_true] at z
 obtain ⟨kv,h1,h2⟩:=z
 exact h kv h1 (of_decide_eq_true h2)
theorem JH (dt dw lr:Addr):d8 (md1 dt dw lr) (Sum.inr "text" : Key)=some (V.ref dt):=bh rfl
theorem Iv (dt dw lr:Addr):d8 (md1 dt dw lr) (Sum.inr "when" : Key)=some (V.ref dw):=(aR mk1).trans (bh rfl)
theorem JB {H:Hp} {m dt dw lr:Addr} (h:H m=some (.dK (md1 dt dw lr))):dU H m (.str "text") (some (.ref dt)):=by
 rw [← JH dt dw lr]
 exact dU.k (k:=(Sum.inr _:Key)) h
theorem G9 {H:Hp} {m dt dw lr:Addr} (h:H m=some (.dK (md1 dt dw lr))):dU H m (.str "when") (some (.ref dw)):=by
 rw [← Iv dt dw lr]
 exact dU.k (k:=(Sum.inr _:Key)) h
def md2 (dt dw lr lk:Addr):List (Key × V):=[(Sum.inr "text",.ref dt),(Sum.inr "when",.ref dw),(Sum.inr "rows",.ref lr),(Sum.inr "links",.ref lk)]
theorem zY (dt dw lr lk:Addr):putK (md1 dt dw lr) (Sum.inr "links" : Key) (.ref lk)=md2 dt dw lr lk:=by
 rw [sE]
 ·rfl
 ·intro kv h
  unfold md1 at h
  simp only [List.mem_cons,List.not_mem_nil,or_false] at h
  rcases h with rfl | rfl | rfl
  ·exact mk3
  ·exact mk6
  ·exact mk8
theorem Cy (M:Md):putK (md2 M.dt M.dw M.lr M.lk) (Sum.inr "alone" : Key) (.ref M.la)=mdK M:=by
 rw [sE]
 ·rfl
 ·intro kv h
  unfold md2 at h
  simp only [List.mem_cons,List.not_mem_nil,or_false] at h
  rcases h with rfl | rfl | rfl | rfl
  ·exact mk4
  ·exact mk7
  ·exact mk9
  ·exact mk0
theorem Dt (dt dw lr lk:Addr):d8 (md2 dt dw lr lk) (Sum.inr "links" : Key)=some (V.ref lk):=(aR mk3).trans ((aR mk6).trans ((aR mk8).trans (bh rfl)))
theorem Du {H:Hp} {m dt dw lr lk:Addr} (h:H m=some (.dK (md2 dt dw lr lk))):dU H m (.str "links") (some (.ref lk)):=by
 rw [← Dt dt dw lr lk]
 exact dU.k (k:=(Sum.inr _:Key)) h
def JM (k:Lnk):Nat→List Int
 | 0=>k.2.2.2.1
 | _=>k.2.2.2.2
structure MdN (H0:Hp) (H:Hp) (m dt dw lr l0 l1:Addr) (L R:List Prt):Prop where
 er:H lr=some (.lst [.ref l0,.ref l1])
 e0:H l0=some (.lst (bG L))
 e1:H l1=some (.lst (bG R))
 nd:[m,dt,dw,lr,l0,l1].Nodup
 fr:∀ a∈[m,dt,dw,lr,l0,l1],H0 a=none
theorem MdN.keep {H0 H H':Hp} {m dt dw lr l0 l1:Addr} {L R:List Prt} (h:MdN H0 H m dt dw lr l0 l1 L R) (k:∀ (a:Addr) (vs:List V),H a=some (.lst vs)→H' a=some (.lst vs)):MdN H0 H' m dt dw lr l0 l1 L R:=⟨k _ _ h.er,k _ _ h.e0,k _ _ h.e1,h.nd,h.fr⟩
section
variable {P:Program} {w:World} {K:PySem.W.Frag} {mg:Str→Option Value} {base:Heap}
theorem gF:aQ ["_law_book_here", "_law_model_here", "_law_part", "_law_ones", "_law_others", "_law_told", "_law_lost", "_law_link"] ["_law_book_here"] (aC nO):=⟨rfl,rfl,rfl,by decide +kernel,rfl,by decide +kernel,by decide +kernel⟩
theorem Jw (h:Has K mg "_law_model" nO ["_law_book_here"]) (m_list:mg "list" = none):Cal P w K mg base "_law_model" 1 ["_law_book_here"] Bh:=by
 refine h.mk' gF (fun vs H Q E hs=>?_) (fun f cdv A outer s H vs Q E hr hs=>?_)
 ·obtain ⟨S,v,L,R,ks,al,rfl,_⟩:=hs
  rfl
 obtain ⟨S,v,L,R,ks,al,rfl,hv,hS,hL,hR,hK,hnd,hmo,k⟩:=hs
 refine qex ⟨_,(fB (Gk (i:=1) gF.nd rfl (Or.inl rfl) (Jd (uK Gw ⟨uH⟩ (uK Gw ⟨uH⟩ Ii)) rfl rfl (by simp) (by decide)))
  (fB ⟨(dZ (bL hr) (pv 1) aG (cM ["_law_book_here", "_law_model_here", "_law_part", "_law_ones", "_law_others", "_law_told", "_law_lost", "_law_link"] (aC nO) ["_law_side_here"] [none] rfl rfl rfl (fO (cC nU (pv 0) dh (dg aA))) rfl (by decide +kernel) (by decide +kernel) (by decide +kernel) (by decide +kernel) (hg:=fun cl C s H ex pn E=>(aO (i:=0) (by decide +kernel:(["_law_side_here"]:List Str).Nodup) rfl (Or.inl rfl))) (ht:=fun cl C s H ex pn E=>cD) (he:=fun cl C s H ex pn E=>(cM ["_law_side_here"] _ ["_law_part"] [none] rfl rfl rfl (Ab (K:=K) rfl (pv 0)) rfl (by decide +kernel) (by decide +kernel) (GC (by decide +kernel)) (by decide +kernel) (hg:=fun cl C s H ex pn E=>(aO (i:=0) (by decide +kernel:(["_law_part"]:List Str).Nodup) rfl (Or.inl rfl))) (ht:=fun cl C s H ex pn E=>cD) (he:=fun cl C s H ex pn E=>(aY (nR (K:=K) rfl) (pv 0) aA (fun _ _=>rfl)))))) rfl)⟩
  (fB ⟨(dB PassesOwn.never rfl (fO (aX je (aY bC (pv 0) aA (fun _ _=>rfl)) (aY bC (pv 0) aA (fun _ _=>rfl)))) (aO (i:=2) gF.nd rfl (Or.inl rfl))
   (au (dZ (bL hr) (bA (bL hr) (pv 1) aG (fun _ _=>rfl)) (aY bC (pv 2) aA (fun _ _=>rfl)) (aY bC (pv 2) aA (fun _ _=>rfl)) rfl)
  (aD (dZ (bL hr) (bA (bL hr) (pv 1) aG (fun _ _=>rfl)) (aY bC (pv 2) aA (fun _ _=>rfl)) (aM cY rfl m_list boot_list (aj (aY bC (pv 2) aA (fun _ _=>rfl)) ao)) rfl))))⟩
  (fB ⟨(dZ (bL hr) (pv 1) aG (bV ao) rfl)⟩
  (fB ⟨(dB PassesOwn.never rfl (fO (aY bC (pv 0) aA (fun _ _=>rfl))) (uD (n:=4) rfl (bR (aO (i:=3) gF.nd rfl (Or.inl rfl)) (bR (aO (i:=4) gF.nd rfl (Or.inl rfl)) (bR (aO (i:=5) gF.nd rfl (Or.inl rfl)) (bR (aO (i:=6) gF.nd rfl (Or.inl rfl)) kI)))))
   (au (aH (i:=7) gF.nd rfl (Or.inl rfl) (bV (aj (aM cY rfl m_list boot_list (aj (pv 3) ao)) (aj (aM cY rfl m_list boot_list (aj (pv 4) ao)) (aj (pv 5) ao)))))
  (aD (dO (gB PySem.F.plainAttrs_list PySem.F.slot_list_append PySem.F.type_list_append bN (bA (bL hr) (pv 1) aG (fun _ _=>rfl)) (aj (aX lW (pv 7) (cM ["_law_book_here", "_law_model_here", "_law_part", "_law_ones", "_law_others", "_law_told", "_law_lost", "_law_link"] (aC nO) ["_law_one"] [none] rfl rfl rfl (fO (pv 6)) rfl (by decide +kernel) (by decide +kernel) (by decide +kernel) (by decide +kernel) (hg:=fun cl C s H ex pn E=>(aO (i:=0) (by decide +kernel:(["_law_one"]:List Str).Nodup) rfl (Or.inl rfl))) (ht:=fun cl C s H ex pn E=>cD) (he:=fun cl C s H ex pn E=>(aM (pQ (K:=K) rfl) rfl m_list boot_list (aj (pv 0) ao))))) ao))))))⟩
  (fB ⟨(dZ (bL hr) (pv 1) aG (aM cY rfl m_list boot_list (aj (aY bC (pv 0) aA (fun _ _=>rfl)) ao)) rfl)⟩
  (Ig ⟨(aV (pv 1))⟩))))))),?_⟩
 obtain ⟨p,pl,pr,pk,pa,ls,rs,us,rfl,a1,a2,a3,a4,a5,a6,a7,a8⟩:=pD hv
 have hl1:=a3.len
 have hl2:=a5.len
 have hl3:=a7.len
 rw [List.length_map] at hl1 hl2 hl3
 have at_:∀ {j:Nat} {y:V},[V.ref pl,.ref pr,.ref pk,.ref pa][j]?=some y→atI [V.ref pl,.ref pr,.ref pk,.ref pa] (j:Nat)=some y:=fun h=>aW h
 refine CG (fun σ H'=>∃ (m dt dw:Addr),σ=[some (.ref p),some (.ref m),none,none,none,none,none,none]∧Same H H'∧H' m=some (.dK (md0 dt dw))∧H' dt=some (.dK [])∧H' dw=some (.dK [])∧[m,dt,dw].Nodup∧∀ a∈[m,dt,dw],H a=none) (fun N hN=>?_) ?_
 ·intro m hm
  intro dt hdt
  intro dw hdw
  have n1:m≠dt:=aB ak hdt
  have s2:=aq hdt (.dK [])
  have n2:m≠dw:=aB (s2 _ _ ak) hdw
  have n3:dt≠dw:=aB ak hdw
  have s3:=(aq hm (.dK [])).trans (s2.trans (aq hdw (.dK [])))
  have em:(upd (upd (upd H m (.dK [])) dt (.dK [])) dw (.dK [])) m=some (.dK []):=by rw [aF n2,aF n1]; exact ak
  have et:(upd (upd (upd H m (.dK [])) dt (.dK [])) dw (.dK [])) dt=some (.dK []):=by rw [aF n3]; exact ak
  have ew:(upd (upd (upd H m (.dK [])) dt (.dK [])) dw (.dK [])) dw=some (.dK []):=ak
  have f2:H dt=none:=(aq hm (.dK [])).free hdt
  have f3:H dw=none:=((aq hm (.dK [])).trans s2).free hdw
  generalize upd (upd (upd H m (.dK [])) dt (.dK [])) dw (.dK [])=H1 at s3 em et ew ⊢
  refine ⟨em,md0 dt dw,rfl,(by show 2≤15; decide),hN _ _ ⟨m,dt,dw,rfl,?_,?_,by rw [aF (Ne.symm n1)]; exact et,by rw [aF (Ne.symm n2)]; exact ew,?_,?_⟩⟩
  ·exact fun c o e=>by rw [aF (aB e hm)]; exact s3 c o e
  ·rw [ak,Fb]
  ·simp [n1,n2,n3]
  ·intro a ha
   simp only [List.mem_cons,List.not_mem_nil,or_false] at ha
   rcases ha with rfl | rfl | rfl
   ·exact hm
   ·exact f2
   ·exact f3
 rintro σ H1 ⟨m,dt,dw,rfl,s1,em,et,ew,nd1,fr1⟩
 refine CG (fun σ H'=>∃ (lr l0 l1:Addr),σ=[some (.ref p),some (.ref m),none,none,none,none,none,none]∧Same H H'∧H' m=some (.dK (md1 dt dw lr))∧H' dt=some (.dK [])∧H' dw=some (.dK [])∧MdN H H' m dt dw lr l0 l1 L R) (fun N hN=>?_) ?_
 ·refine ⟨_,rfl,_,rfl,p,_,rfl,s1 _ _ a1,fun q2 H2 s2 e2=>?_⟩
  have e2:H2 q2=some (.tup [.ref pl,.ref pr]):=e2
  have s02:=s1.trans s2
  refine ⟨q2,rfl,⟨_,SqT.of e2⟩,fun lr hlr=>?_⟩
  have nlr:∀ {a:Addr} {o:HO},H2 a=some o→a≠lr:=fun e=>aB e hlr
  refine gJ (J:=Itt K q2) (l:=lr) 2 (fun i σ' H'=>∃ (v0:Option V) (as:List Addr),σ'=[v0]∧Same H2 H'∧H' lr=some (.lst (as.map V.ref))∧as.length=i∧as.Nodup∧(∀ a∈as,H2 a=none∧a≠lr)∧∀ (j:Nat) (a:Addr),as[j]?=some a→H' a=some (.lst (bG (sdP j L R)))) ⟨none,[],rfl,aq hlr _,ak,rfl,.nil,(fun a h=>nomatch h),fun j a h=>nomatch h⟩ ?_ ?_
  rotate_left
  ·rintro i σ' H3 hi ⟨v0,as,rfl,s3,e3,hal,hnd3,hfr,hrow⟩
   obtain ⟨hi1,pq,us',hat,hpq,dpq⟩:i≤1∧∃ (pq:Addr) (us':List V),[V.ref pl,V.ref pr][i]?=some (.ref pq)∧H pq=some (.tup us')∧bI H us' ((sdP i L R).map bw):=by
    match i,hi with
    | 0,_=>exact ⟨by omega,pl,ls,rfl,a2,a3⟩
    | 1,_=>exact ⟨by omega,pr,rs,rfl,a4,a5⟩
   refine ⟨⟨_,_,SqT.of (s3 _ _ e2),hat⟩,?_⟩
   rintro N2 hN2 y H4 ⟨rfl,hy⟩
   have ey:y=.ref pq:=Option.some.inj ((hy _ (SqT.of (s3 _ _ e2))).symm.trans hat)
   subst ey
   have s03:=s02.trans s3
   have hpq3:=s03 _ _ hpq
   have hul:=dpq.len
   rw [List.length_map] at hul
   refine gN (xR (oX ⟨_,rfl,pq,rfl,⟨_,SqT.of hpq3⟩,fun li hli=>?_⟩))
   have nli:li≠lr:=(aB e3 hli).symm
   have hli2:H2 li=none:=s3.free hli
   have hlia:li ∉ as:=fun z=>by
    obtain ⟨j,hj⟩:=List.mem_iff_getElem?.mp z
    rw [hrow j li hj] at hli
    cases hli
   refine gJ (J:=Itt K pq) (l:=li) us'.length (fun z σ'' H''=>∃ v:Option V,σ''=[v]∧Same H4 H''∧H'' li=some (.lst (bG ((sdP i L R).take z)))) ⟨none,rfl,aq hli _,ak⟩ ?_ ?_
   ·rintro σ'' H5 ⟨v5,rfl,s5,e5⟩
    rw [hul,List.take_length] at e5
    refine ⟨⟨_,SqT.of (s5 _ _ hpq3),Nat.le_refl _⟩,?_⟩
    have e35:=s5 _ _ e3
    refine ⟨_,e35,aJ (by rw [List.length_map]; omega),hN2 _ _ ⟨_,as++[li],rfl,cX (s3.trans s5) hlr,by rw [ak,List.map_append]; rfl,by rw [List.length_append,hal]; rfl,?_,fun a ha=>?_,fun j a hj=>?_⟩⟩
    ·rw [List.nodup_append]
     refine ⟨hnd3,by simp,fun x hx y hy z=>?_⟩
     rw [List.mem_singleton.mp hy] at z
     exact hlia (by rw [← z]; exact hx)
    ·rcases List.mem_append.mp ha with h | h
     ·exact hfr a h
     ·rw [List.mem_singleton.mp h]
      exact ⟨hli2,nli⟩
    ·rcases Nat.lt_or_ge j as.length with h | h
     ·rw [List.getElem?_append_left h] at hj
      rw [aF (hfr a (List.mem_of_getElem? hj)).2]
      exact s5 _ _ (hrow j a hj)
     ·rw [List.getElem?_append_right h] at hj
      have hj0:j - as.length=0:=by
       have:=(List.getElem?_eq_some_iff.mp hj).1
       rw [List.length_singleton] at this
       omega
      rw [hj0] at hj
      have ea:li=a:=Option.some.inj hj
      have ej:j=i:=by omega
      rw [← ea,ej,aF nli]
      exact e5
   ·rintro z σ'' H5 hz ⟨v5,rfl,s5,e5⟩
    have hzl:z < (sdP i L R).length:=by omega
    refine ⟨⟨_,_,SqT.of (s5 _ _ hpq3),cG hz⟩,?_⟩
    rintro N3 hN3 y H6 ⟨rfl,hy⟩
    have ey:y=us'[z]:=Option.some.inj ((hy _ (SqT.of (s5 _ _ hpq3))).symm.trans (cG hz))
    have dy:Den H us'[z] (bw (sdP i L R)[z]):=at_of dpq (cG hz) (by rw [List.getElem?_map,cG hzl]; rfl)
    have htk:=take_one (cG hzl)
    rw [← ey] at dy
    generalize (sdP i L R)[z]=r at dy htk
    obtain ⟨c,pm,rfl,hc,hpm⟩:=fH (dy.same (s03.trans s5))
    refine gN (xR (oX ⟨_,rfl,c,_,_,_,rfl,rfl,SqT.of hc,bx _ _,_,e5,aJ (by unfold bG sdP; rw [List.length_map,List.length_take]; split <;> omega),hN3 _ _ ⟨_,rfl,cX s5 hli,?_⟩⟩))
    rw [ak,htk]
    unfold bG
    rw [List.map_append]
    rfl
  rintro σ' H3 ⟨v0,as,rfl,s3,e3,hal,hnd3,hfr,hrow⟩
  obtain ⟨l0,l1,rfl⟩:∃ l0 l1,as=[l0,l1]:=by
   match as,hal with
   | [l0,l1],_=>exact ⟨l0,l1,rfl⟩
  have s23:=s2.trans s3
  have hm3:=s23 _ _ em
  have sne:∀ kv∈md0 dt dw,kv.1≠(Sum.inr "rows" : Key):=fun kv h=>by
   unfold md0 at h
   simp only [List.mem_cons,List.not_mem_nil,or_false] at h
   rcases h with rfl | rfl
   ·exact mk2
   ·exact mk5
  refine ⟨⟨_,SqT.of (s3 _ _ e2),Nat.le_refl _⟩,_,rfl,m,_,rfl,rN.k (k:=(Sum.inr "rows" : Key)) hm3 (aJ (show 2≤1000 by omega)),hN _ _ ⟨lr,l0,l1,rfl,?_,?_,?_,?_,?_⟩⟩
  ·exact fun c o e=>by rw [aF (aB e (fr1 m (by simp)))]; exact (s02.trans s3) c o e
  ·rw [ak,sE sne]
   rfl
  ·have hne:dt≠m:=by simp only [List.nodup_cons,List.mem_cons,not_or] at nd1; exact Ne.symm nd1.1.1
   rw [aF hne]
   exact s23 _ _ et
  ·have hne:dw≠m:=by simp only [List.nodup_cons,List.mem_cons,not_or] at nd1; exact Ne.symm nd1.1.2.1
   rw [aF hne]
   exact s23 _ _ ew
  ·have q0:=hfr l0 (.head _)
   have q1:=hfr l1 (.tail _ (.head _))
   have em2:=s2 _ _ em
   have et2:=s2 _ _ et
   have ew2:=s2 _ _ ew
   have nm0:l0≠m:=fun z=>by rw [← z,q0.1] at em2; cases em2
   have nm1:l1≠m:=fun z=>by rw [← z,q1.1] at em2; cases em2
   have nmr:lr≠m:=fun z=>by rw [← z,hlr] at em2; cases em2
   refine ⟨by rw [aF nmr]; exact e3,by rw [aF nm0]; exact hrow 0 l0 rfl,by rw [aF nm1]; exact hrow 1 l1 rfl,?_,?_⟩
   ·have t0:dt≠lr:=nlr et2
    have t1:dw≠lr:=nlr ew2
    have t2:dt≠l0:=fun z=>by rw [z,q0.1] at et2; cases et2
    have t3:dt≠l1:=fun z=>by rw [z,q1.1] at et2; cases et2
    have t4:dw≠l0:=fun z=>by rw [z,q0.1] at ew2; cases ew2
    have t5:dw≠l1:=fun z=>by rw [z,q1.1] at ew2; cases ew2
    simp only [List.nodup_cons,List.mem_cons,List.not_mem_nil,or_false,not_or,not_false_eq_true,and_true] at nd1 hnd3 ⊢
    exact ⟨⟨nd1.1.1,nd1.1.2,Ne.symm nmr,Ne.symm nm0,Ne.symm nm1⟩,⟨nd1.2.1,t0,t2,t3⟩,⟨t1,t4,t5⟩,⟨Ne.symm q0.2,Ne.symm q1.2⟩,hnd3.1,trivial,List.nodup_nil⟩
   ·intro a ha
    simp only [List.mem_cons,List.not_mem_nil,or_false] at ha
    rcases ha with rfl | rfl | rfl | rfl | rfl | rfl
    ·exact fr1 _ (by simp)
    ·exact fr1 _ (by simp)
    ·exact fr1 _ (by simp)
    ·exact s02.free hlr
    ·exact s02.free q0.1
    ·exact s02.free q1.1
 rintro σ H2 ⟨lr,l0,l1,rfl,s2,em2,et2,ew2,hN2⟩
 have hnd6:=hN2.nd
 simp only [List.nodup_cons,List.mem_cons,List.not_mem_nil,or_false,not_or,not_false_eq_true,and_true] at hnd6
 obtain ⟨⟨m1,m2,m3,m4,m5⟩,⟨t1,t2,t3,t4⟩,⟨w1,w2,w3⟩,⟨r1,r2⟩,l01,_⟩:=hnd6
 clear em et ew s1 nd1 fr1 H1
 refine CG (fun σ H'=>∃ v2:Option V,σ=[some (.ref p),some (.ref m),v2,none,none,none,none,none]∧Same H H'∧H' m=some (.dK (md1 dt dw lr))∧MdN H H' m dt dw lr l0 l1 L R∧Nu H' dt (L++R)∧∃ W,WhN S [m,dt,dw,lr,l0,l1] H' dw W (L++R)) (fun N hN=>?_) ?_
 ·refine ⟨_,rfl,p,_,_,_,rfl,rfl,SqT.of (s2 _ _ a1),bx _ _,_,rfl,p,_,_,_,rfl,rfl,SqT.of (s2 _ _ a1),at_ (j:=1) rfl,pl,pr,_,_,rfl,rfl,s2 _ _ a2,s2 _ _ a4,small (by omega),fun q3 H3 s3 e3=>⟨q3,rfl,⟨_,SqT.of e3⟩,?_⟩⟩
  have s03:=s2.trans s3
  have dA:bI H (ls++rs) ((L++R).map bw):=by
   rw [List.map_append]
   exact dG a3 a5
  have hPl:(L++R).length=(ls++rs).length:=by rw [List.length_append,List.length_append,hl1,hl2]
  have hP12:(L++R).length≤120:=by rw [List.length_append]; omega
  refine jA (K:=K) (a:=q3) (xs:=ls++rs) (fun i σ H'=>∃ v2:Option V,σ=[some (.ref p),some (.ref m),v2,none,none,none,none,none]∧Same H H'∧H' q3=some (.tup (ls++rs))∧H' m=some (.dK (md1 dt dw lr))∧MdN H H' m dt dw lr l0 l1 L R∧Nu H' dt ((L++R).take i)∧∃ W,WhN S [m,dt,dw,lr,l0,l1] H' dw W ((L++R).take i)) ⟨_,rfl,s03,e3,s3 _ _ em2,hN2.keep fun a vs h=>s3 _ _ h,⟨[],s3 _ _ et2,Nat.zero_le _,fun p hp=>(by cases hp),fun k v hv=>(by cases hv)⟩,[],⟨[],s3 _ _ ew2,Nat.zero_le _,rfl,fun i p hp=>(by rw [List.take_zero] at hp; cases hp)⟩,List.nodup_nil,fun a h=>nomatch h⟩ ?_ ?_ ?_
  ·rintro i σ H4 _ ⟨_,_,_,e4,_⟩
   exact SqT.of e4
  ·rintro i y σ H4 hi ⟨v2,rfl,s4,e4,em4,hN4,hT4,W,hW4⟩
   have hil:i < (L++R).length:=by
    have:=(List.getElem?_eq_some_iff.mp hi).1
    omega
   have dy:Den H y (bw (L++R)[i]):=at_of dA hi (by rw [List.getElem?_map,cG hil]; rfl)
   have htk:=take_one (cG hil)
   have hnew:∀ r∈(L++R).take i,r.1≠(L++R)[i].1:=fun r hr z=>by
    have hnd':(((L++R).take (i+1)).map (·.1)).Nodup:=hnd.sublist ((List.take_sublist _ _).map _)
    rw [htk,List.map_append,List.nodup_append] at hnd'
    exact hnd'.2.2 r.1 (List.mem_map_of_mem hr) _ (List.mem_map_of_mem (List.mem_singleton_self _)) z
   have hti:((L++R).take i).length=i:=by rw [List.length_take]; omega
   have hmq:=hmo _ (List.getElem_mem hil)
   generalize (L++R)[i]=q at dy htk hnew hmq
   obtain ⟨c,pm,rfl,hc0,hpm0⟩:=fH dy
   obtain ⟨kt,et,hkl,hkt,hkk⟩:=hT4.ex
   obtain ⟨kw,ew,hwl,hWl,hkw⟩:=hW4.w.ex
   have hc:=s4 _ _ hc0
   refine JT fun E1 hE1=>gN ⟨_,rfl,c,_,_,_,rfl,rfl,SqT.of hc,aW (xs:=[mkT q.1,mkT q.2.1,V.ref pm]) (j:=1) rfl,_,rfl,m,_,rfl,JB em4,_,rfl,c,_,_,_,rfl,rfl,SqT.of hc,bx _ _,dt,_,rfl,rN.k (k:=nk q.1) et (aJ (by omega)),?_⟩
   have b0:But dt H4 (upd H4 dt (.dK (putK kt (nk q.1) (mkT q.2.1)))):=.upd _
   have bt:(upd H4 dt (.dK (putK kt (nk q.1) (mkT q.2.1)))) dt=some (.dK (putK kt (nk q.1) (mkT q.2.1))):=ak
   generalize upd H4 dt (.dK (putK kt (nk q.1) (mkT q.2.1)))=H5 at b0 bt
   have kL:∀ (a:Addr) (vs:List V),H4 a=some (.lst vs)→H5 a=some (.lst vs):=fun a vs h=>b0 _ _ h (eF h et)
   have hfd:=hN4.fr dt (by simp)
   have s5:Same H H5:=But.same s4 hfd b0
   have em5:=b0 _ _ em4 m1
   have ew5:=b0 _ _ ew (Ne.symm t1)
   have hc5:=s5 _ _ hc0
   have hpm5:=s5 _ _ hpm0
   refine ⟨_,rfl,c,_,_,_,rfl,rfl,SqT.of hc5,aW (xs:=[mkT q.1,mkT q.2.1,V.ref pm]) (j:=2) rfl,pm,_,rfl,.inr (SqT.of hpm5),fun l hl=>?_⟩
   have s6:=aq hl (.lst (q.2.2.map V.int))
   have e6:(upd H5 l (.lst (q.2.2.map V.int))) l=some (.lst (q.2.2.map V.int)):=ak
   generalize upd H5 l (.lst (q.2.2.map V.int))=H6 at s6 e6 ⊢
   refine ⟨_,rfl,m,_,rfl,G9 (s6 _ _ em5),_,rfl,c,_,_,_,rfl,rfl,SqT.of (s6 _ _ hc5),bx _ _,dw,_,rfl,rN.k (k:=nk q.1) (s6 _ _ ew5) (aJ (by omega)),?_⟩
   have hlS:l ∉ S:=fun z=>by
    obtain ⟨o,ho⟩:=hS l z
    rw [s5 _ _ ho] at hl
    cases hl
   have hlT:l ∉ [m,dt,dw,lr,l0,l1]:=fun z=>by
    simp only [List.mem_cons,List.not_mem_nil,or_false] at z
    rcases z with z | z | z | z | z | z
    ·rw [z,em5] at hl; cases hl
    ·rw [z,bt] at hl; cases hl
    ·rw [z,ew5] at hl; cases hl
    ·rw [z,kL _ _ hN4.er] at hl; cases hl
    ·rw [z,kL _ _ hN4.e0] at hl; cases hl
    ·rw [z,kL _ _ hN4.e1] at hl; cases hl
   have hlW:l ∉ W:=fun z=>by
    obtain ⟨vs,h⟩:=hW4.w.row z
    rw [kL _ _ h] at hl
    cases hl
   have kp:∀ (a:Addr) (o:HO),H5 a=some o→a≠dw→(upd H6 dw (.dK (putK kw (nk q.1) (.ref l)))) a=some o:=fun a o h hne=>by
    rw [aF hne]
    exact s6 _ _ h
   refine hE1.n _ _ ⟨_,rfl,fun a o h=>?_,?_,kp _ _ em5 m2,hN4.keep fun a vs h=>kp _ _ (kL _ _ h) (eF h ew),⟨_,kp _ _ bt t1,?_,fun r hr=>?_,fun k v hv=>?_⟩,W++[l],⟨_,ak,?_,?_,fun j r hr=>?_⟩,?_,fun a ha=>?_⟩
   ·exact kp _ _ (s5 _ _ h) (aB h (hN4.fr dw (by simp)))
   ·exact kp _ _ (b0 _ _ e4 (iC e4 et (by intro z; cases z))) (iC e4 ew (by intro z; cases z))
   ·rw [htk,List.length_append,List.length_singleton]
    have:=uV kt (nk q.1) (mkT q.2.1)
    omega
   ·rw [iV]
    rw [htk] at hr
    rcases List.mem_append.mp hr with h | h
    ·rw [if_neg fun z=>hnew r h (yg z)]
     exact hkt r h
    ·rw [List.mem_singleton.mp h,if_pos rfl]
   ·rw [iV] at hv
    rw [htk]
    by_cases c:k=nk q.1
    ·rw [if_pos c] at hv
     exact ⟨q,List.mem_append_right _ (List.mem_singleton_self _),c,(Option.some.inj hv).symm⟩
    ·rw [if_neg c] at hv
     obtain ⟨r,hr,e⟩:=hkk k v hv
     exact ⟨r,List.mem_append_left _ hr,e⟩
   ·rw [htk,List.length_append,List.length_singleton]
    have:=uV kw (nk q.1) (.ref l)
    omega
   ·rw [htk,List.length_append,List.length_append,hWl]
    rfl
   ·rw [htk] at hr
    rw [iV]
    rcases Nat.lt_or_ge j ((L++R).take i).length with h | h
    ·rw [List.getElem?_append_left h] at hr
     have hrm:=List.mem_of_getElem? hr
     obtain ⟨l',ws',y0,x1,x3,x4,x5⟩:=hkw j r hr
     rw [if_neg fun z=>hnew r hrm (yg z)]
     exact ⟨l',ws',by rw [List.getElem?_append_left (by rw [hWl]; exact h)]; exact y0,x1,kp _ _ (kL _ _ x3) (eF x3 ew),x4,x5⟩
    ·rw [List.getElem?_append_right h] at hr
     have h0:j - ((L++R).take i).length=0:=by
      have:=(List.getElem?_eq_some_iff.mp hr).1
      rw [List.length_singleton] at this
      omega
     rw [h0] at hr
     have er:q=r:=Option.some.inj hr
     rw [← er,if_pos rfl]
     exact ⟨l,q.2.2,by rw [List.getElem?_append_right (by rw [hWl]; exact h),hWl,h0]; rfl,rfl,by rw [aF (Ne.symm (aB ew5 hl))]; exact e6,hmq,fun k=>Iff.rfl⟩
   ·rw [List.nodup_append]
    exact ⟨hW4.nd,by simp,fun a ha b hb z=>hlW (by rw [← List.mem_singleton.mp hb,← z]; exact ha)⟩
   ·rcases List.mem_append.mp ha with h | h
    ·exact hW4.fr a h
    ·rw [List.mem_singleton.mp h]
     exact ⟨hlS,hlT⟩
  ·rintro σ H4 ⟨v2,rfl,s4,e4,em4,hN4,hT4,W,hW4⟩
   rw [← hPl,List.take_length] at hT4 hW4
   exact hN _ _ ⟨_,rfl,s4,em4,hN4,hT4,W,hW4⟩
 rintro σ H3 ⟨v2,rfl,s3,em3,hN3,hT3,W,hW3⟩
 clear s2 em2 et2 ew2 hN2 H2
 obtain ⟨kt,et,hkl,hkt⟩:=hT3.ex
 obtain ⟨kw,ew,hwl,hWl,hkw⟩:=hW3.w.ex
 refine ⟨smn 0,fun lk hlk=>?_⟩
 have s4:=aq hlk (.lst [])
 have e4:(upd H3 lk (.lst [])) lk=some (.lst []):=ak
 have nlk:∀ {a:Addr} {o:HO},H3 a=some o→a≠lk:=fun e=>aB e hlk
 have flk:H lk=none:=s3.free hlk
 generalize upd H3 lk (.lst [])=H4 at s4 e4 ⊢
 refine ⟨_,rfl,m,_,rfl,rN.k (k:=(Sum.inr "links" : Key)) (s4 _ _ em3) (aJ (show 3≤1000 by omega)),?_⟩
 rw [zY]
 have b5:But m H4 (upd H4 m (.dK (md2 dt dw lr lk))):=.upd _
 have em5:(upd H4 m (.dK (md2 dt dw lr lk))) m=some (.dK (md2 dt dw lr lk)):=ak
 generalize upd H4 m (.dK (md2 dt dw lr lk))=H5 at b5 em5
 have em4:=s4 _ _ em3
 have kL5:∀ (a:Addr) (vs:List V),H3 a=some (.lst vs)→H5 a=some (.lst vs):=fun a vs h=>b5 _ _ (s4 _ _ h) (eF (s4 _ _ h) em4)
 have e5:H5 lk=some (.lst []):=b5 _ _ e4 (eF e4 em4)
 have s5:Same H H5:=But.same (s3.trans s4) (hN3.fr m (by simp)) b5
 have hN5:=hN3.keep kL5
 have hT5:Nu H5 dt (L++R):=⟨kt,b5 _ _ (s4 _ _ et) (Ne.symm m1),hkl,hkt⟩
 have hW5:WhN S [m,dt,dw,lr,l0,l1] H5 dw W (L++R):=⟨⟨kw,b5 _ _ (s4 _ _ ew) (Ne.symm m2),hwl,hWl,fun j r hr=>by
  obtain ⟨l',ws',y0,x1,x3,x45⟩:=hkw j r hr
  exact ⟨l',ws',y0,x1,kL5 _ _ x3,x45⟩⟩,hW3.nd,hW3.fr⟩
 have nWlk:∀ a∈W,a≠lk:=fun a ha=>by
  obtain ⟨vs,h⟩:=hW3.w.row ha
  exact nlk h
 have k0:l0≠lk:=nlk hN3.e0
 have k1:l1≠lk:=nlk hN3.e1
 have k2:lr≠lk:=nlk hN3.er
 have k3:m≠lk:=nlk em3
 have k4:dt≠lk:=nlk et
 have k5:dw≠lk:=nlk ew
 clear b5 em4 s4 e4 hN3 hT3 hW3 kL5 nlk hkt hkw hkl hwl et ew em3 s3 hlk H4 H3 kt kw
 refine ⟨_,rfl,p,_,_,_,rfl,rfl,SqT.of (s5 _ _ a1),at_ (j:=2) rfl,pk,rfl,⟨_,SqT.of (s5 _ _ a6)⟩,?_⟩
 have a6':=s5 _ _ a6
 have nT:pk≠lk:=iC a6' e5 (by intro z; cases z)
 refine jA (K:=K) (a:=pk) (xs:=us) (fun i σ H'=>∃ (v3 v4 v5 v6 v7:Option V) (ws:List V),σ=[some (.ref p),some (.ref m),v2,v3,v4,v5,v6,v7]∧But lk H5 H'∧H' lk=some (.lst ws)∧ws.length=i∧∀ (j:Nat) (u:V) (kk:Lnk),ws[j]?=some u→ks[j]?=some kk→Gs (lk :: (W++S)) H' u kk) ⟨_,_,_,_,_,[],rfl,.of (Same.refl _),e5,rfl,fun j u kk h=>nomatch h⟩ ?_ ?_ ?_
 ·rintro i σ H6 _ ⟨_,_,_,_,_,_,_,b6,_⟩
  exact SqT.of (b6 _ _ a6' nT)
 ·rintro i y σ H6 hi ⟨v3,v4,v5,v6,v7,ws,rfl,b6,e6,hwl,hws⟩
  have hil:i < ks.length:=by
   have:=(List.getElem?_eq_some_iff.mp hi).1
   omega
  have dy:Den H y (bY ks[i]):=at_of a7 hi (by rw [List.getElem?_map,cG hil]; rfl)
  have hki:=cG hil
  generalize ks[i]=kk at dy hki
  obtain ⟨q,p0,p1,p3,p4,p5,us0,us1,rfl,c0,c1,c2,c3,c4,c5,c6,c7⟩:=Fy dy
  have hu0:=Dp c2
  have hu1:=Dp c4
  subst hu0
  subst hu1
  have s06:Same H H6:=But.same s5 flk b6
  refine JT fun E1 hE1=>⟨q,_,rfl,SqT.of (s06 _ _ c0),rfl,_,_,rfl,_,_,rfl,_,_,rfl,_,_,rfl,rfl,?_⟩
  refine ⟨_,rfl,p0,_,rfl,.inr (SqT.of (s06 _ _ c1)),fun a ha=>?_⟩
  have s7:=aq ha (.lst (kk.1.map mkT))
  have f7:(upd H6 a (.lst (kk.1.map mkT))) a=some (.lst (kk.1.map mkT)):=ak
  generalize upd H6 a (.lst (kk.1.map mkT))=H7 at s7 f7 ⊢
  refine ⟨_,rfl,p1,_,rfl,.inr (SqT.of (s7 _ _ (s06 _ _ c3))),fun b hb=>?_⟩
  have s8:=aq hb (.lst (kk.2.1.map mkT))
  have f8:(upd H7 b (.lst (kk.2.1.map mkT))) b=some (.lst (kk.2.1.map mkT)):=ak
  generalize upd H7 b (.lst (kk.2.1.map mkT))=H8 at s8 f8 ⊢
  refine ⟨_,rfl,smn 3,fun q0 hq0=>?_⟩
  have s9:=aq hq0 (.lst [.ref a,.ref b,.int kk.2.2.1])
  have f9:(upd H8 q0 (.lst [.ref a,.ref b,.int kk.2.2.1])) q0=some (.lst [.ref a,.ref b,.int kk.2.2.1]):=ak
  generalize upd H8 q0 (.lst [.ref a,.ref b,.int kk.2.2.1])=H9 at s9 f9 ⊢
  have s69:=(s7.trans s8).trans s9
  have s09:=s06.trans s69
  have em9:=s69 _ _ (b6 _ _ em5 k3)
  have e69:=s69 _ _ e6
  refine ⟨_,rfl,m,_,rfl,Du em9,.inl ⟨rfl,_,SqL.of e69⟩,_,rfl,_,rfl,p3,rfl,⟨_,SqT.of (s09 _ _ c5)⟩,fun lc hlc=>?_⟩
  refine gJ (J:=Itt K p3) (l:=lc) 2 (fun j σ' H'=>∃ (v0:Option V) (as:List Addr),σ'=[v0]∧Same H9 H'∧H' lc=some (.lst (as.map V.ref))∧as.length=j∧(∀ x∈as,H9 x=none∧x≠lc)∧∀ (z:Nat) (x:Addr),as[z]?=some x→H' x=some (.lst ((JM kk z).map V.int))) ⟨none,[],rfl,aq hlc _,ak,rfl,(fun x h=>nomatch h),fun z x h=>nomatch h⟩ ?_ ?_
  rotate_left
  ·rintro j σ' Ha hj ⟨v0,as,rfl,sa,ea,hal,hfr,hrow⟩
   obtain ⟨hj1,pq,hat,hpq⟩:j≤1∧∃ pq:Addr,[V.ref p4,V.ref p5][j]?=some (.ref pq)∧H pq=some (.tup ((JM kk j).map V.int)):=by
    match j,hj with
    | 0,_=>exact ⟨by omega,p4,rfl,c6⟩
    | 1,_=>exact ⟨by omega,p5,rfl,c7⟩
   have s0a:=s09.trans sa
   refine ⟨⟨_,_,SqT.of (s0a _ _ c5),hat⟩,?_⟩
   rintro N2 hN2 y Hb ⟨rfl,hy⟩
   have ey:y=.ref pq:=Option.some.inj ((hy _ (SqT.of (s0a _ _ c5))).symm.trans hat)
   subst ey
   refine gN (xR (oX ⟨_,rfl,pq,_,rfl,.inr (SqT.of (s0a _ _ hpq)),fun li hli=>?_⟩))
   have nli:li≠lc:=(aB ea hli).symm
   have sb:=aq hli (.lst ((JM kk j).map V.int))
   have eb:(upd Hb li (.lst ((JM kk j).map V.int))) li=some (.lst ((JM kk j).map V.int)):=ak
   generalize upd Hb li (.lst ((JM kk j).map V.int))=Hc at sb eb ⊢
   refine ⟨_,sb _ _ ea,aJ (by rw [List.length_map]; omega),hN2 _ _ ⟨_,as++[li],rfl,cX (sa.trans sb) hlc,by rw [ak,List.map_append]; rfl,by rw [List.length_append,hal]; rfl,fun x hx=>?_,fun z x hz=>?_⟩⟩
   ·rcases List.mem_append.mp hx with h | h
    ·exact hfr x h
    ·rw [List.mem_singleton.mp h]
     exact ⟨sa.free hli,nli⟩
   ·rcases Nat.lt_or_ge z as.length with h | h
    ·rw [List.getElem?_append_left h] at hz
     rw [aF (hfr x (List.mem_of_getElem? hz)).2]
     exact sb _ _ (hrow z x hz)
    ·rw [List.getElem?_append_right h] at hz
     have hz0:z - as.length=0:=by
      have:=(List.getElem?_eq_some_iff.mp hz).1
      rw [List.length_singleton] at this
      omega
     rw [hz0] at hz
     have ex:li=x:=Option.some.inj hz
     have ez:z=j:=by omega
     rw [← ex,ez,aF nli]
     exact eb
  rintro σ' Ha ⟨v0,as,rfl,sa,ea,hal,hfr,hrow⟩
  obtain ⟨c,d,rfl⟩:∃ c d,as=[c,d]:=by
   match as,hal with
   | [c,d],_=>exact ⟨c,d,rfl⟩
  refine ⟨⟨_,SqT.of (sa _ _ (s09 _ _ c5)),Nat.le_refl _⟩,q0,lc,_,_,rfl,rfl,sa _ _ f9,ea,smn 5,fun qn hqn=>?_⟩
  have sb:=aq hqn (.lst [.ref a,.ref b,.int kk.2.2.1,.ref c,.ref d])
  have eb:(upd Ha qn (.lst [.ref a,.ref b,.int kk.2.2.1,.ref c,.ref d])) qn=some (.lst [.ref a,.ref b,.int kk.2.2.1,.ref c,.ref d]):=ak
  generalize hHb:upd Ha qn (.lst [.ref a,.ref b,.int kk.2.2.1,.ref c,.ref d])=Hb at sb eb
  have hHb:upd Ha qn (.lst ([.ref a,.ref b,.int kk.2.2.1]++[c,d].map V.ref))=Hb:=hHb
  rw [hHb]
  have s9b:=sa.trans sb
  have s6b:=s69.trans s9b
  have e6b:=s6b _ _ e6
  have bb:But lk H5 (upd Hb lk (.lst (ws++[.ref qn]))):=(b6.trans (.of s6b)).trans (.upd _)
  have nb:∀ {x:Addr},H6 x=none→x ∉ lk :: (W++S):=fun {x} hx z=>by
   rcases List.mem_cons.mp z with z | z
   ·rw [z,e6] at hx
    cases hx
   ·rcases List.mem_append.mp z with z | z
    ·obtain ⟨vs,h⟩:=hW5.w.row z
     rw [b6 _ _ h (nWlk x z)] at hx
     cases hx
    ·obtain ⟨o,ho⟩:=hS x z
     rw [s06 _ _ ho] at hx
     cases hx
  have na:=nb ha
  have nbb:=nb (s7.free hb)
  have hc9:=hfr c (.head _)
  have hd9:=hfr d (.tail _ (.head _))
  have nc:=nb (s69.free hc9.1)
  have nd':=nb (s69.free hd9.1)
  have nq:=nb ((s69.trans sa).free hqn)
  have kb:∀ {x:Addr} {vs:List V},Hb x=some (.lst vs)→x ∉ lk :: (W++S)→(upd Hb lk (.lst (ws++[.ref qn]))) x=some (.lst vs):=fun h n=>by
   rw [aF fun z=>n (by rw [z]; exact .head _)]
   exact h
  refine ⟨lk,ws,_,rfl,rfl,e6b,aJ (by omega),hE1.n _ _ ⟨_,_,_,_,_,ws++[.ref qn],rfl,bb,ak,by rw [List.length_append,hwl]; rfl,fun j u k' hu hk'=>?_⟩⟩
  rcases Nat.lt_or_ge j ws.length with h | h
  ·rw [List.getElem?_append_left h] at hu
   exact (hws j u k' hu hk').keepL fun x vs hx hn=>kb (s6b _ _ hx) hn
  ·rw [List.getElem?_append_right h] at hu
   have hj0:j - ws.length=0:=by
    have:=(List.getElem?_eq_some_iff.mp hu).1
    rw [List.length_singleton] at this
    omega
   rw [hj0] at hu
   have ej:j=i:=by omega
   have ek:k'=kk:=by
    rw [ej,hki] at hk'
    exact (Option.some.inj hk').symm
   rw [← Option.some.inj hu,ek]
   exact ⟨qn,a,b,c,d,rfl,nq,na,nbb,nc,nd',kb eb nq,kb (s9b _ _ ((s8.trans s9) _ _ f7)) na,kb (s9b _ _ (s9 _ _ f8)) nbb,kb (sb _ _ (hrow 0 c rfl)) nc,kb (sb _ _ (hrow 1 d rfl)) nd'⟩
 ·rintro σ H6 ⟨v3,v4,v5,v6,v7,ws,rfl,b6,e6,hwl,hws⟩
  have s06:Same H H6:=But.same s5 flk b6
  refine ⟨_,rfl,p,_,_,_,rfl,rfl,SqT.of (s06 _ _ a1),at_ (j:=3) rfl,pa,_,rfl,.inr (SqT.of (s06 _ _ a8)),fun la hla=>?_⟩
  have s7:=aq hla (.lst (al.map mkT))
  have e7:(upd H6 la (.lst (al.map mkT))) la=some (.lst (al.map mkT)):=ak
  have nla:∀ {x:Addr} {o:HO},H6 x=some o→x≠la:=fun e=>aB e hla
  have fla:H la=none:=s06.free hla
  generalize upd H6 la (.lst (al.map mkT))=H7 at s7 e7 ⊢
  have em6:=b6 _ _ em5 k3
  have em7:=s7 _ _ em6
  refine ⟨_,rfl,m,_,rfl,rN.k (k:=(Sum.inr "alone" : Key)) em7 (aJ (show 4≤1000 by omega)),_,rfl,?_⟩
  obtain ⟨kt,et,hkl,hkt⟩:=hT5.ex
  obtain ⟨kw,ew,hkwl,hWl,hkw⟩:=hW5.w.ex
  have pe:=Cy ⟨m,dt,dw,lr,l0,l1,lk,la,W,60⟩
  have pe:putK (md2 dt dw lr lk) (Sum.inr "alone" : Key) (.ref la)=mdK ⟨m,dt,dw,lr,l0,l1,lk,la,W,60⟩:=pe
  rw [pe]
  have kp:∀ {x:Addr} {o:HO},H5 x=some o→x≠lk→x≠m→(upd H7 m (.dK (mdK ⟨m,dt,dw,lr,l0,l1,lk,la,W,60⟩))) x=some o:=fun h h1 h2=>by
   rw [aF h2]
   exact s7 _ _ (b6 _ _ h h1)
  have kp6:∀ {x:Addr} {vs:List V},H6 x=some (.lst vs)→(upd H7 m (.dK (mdK ⟨m,dt,dw,lr,l0,l1,lk,la,W,60⟩))) x=some (.lst vs):=fun h=>by
   rw [aF (eF h em6)]
   exact s7 _ _ h
  have off:∀ {x:Addr},H x=none→x ∉ S:=fun {x} hx z=>by
   obtain ⟨o,ho⟩:=hS x z
   rw [ho] at hx
   cases hx
  have tt:∀ {x:Addr},x ∉ lk :: (W++S)→x ∉ W++S:=fun n z=>n (.tail _ z)
  have q0:=nla (b6 _ _ hN5.e0 k0)
  have q1:=nla (b6 _ _ hN5.e1 k1)
  have q2:=nla (b6 _ _ hN5.er k2)
  have q3:=nla em6
  have q4:=nla (b6 _ _ et k4)
  have q5:=nla (b6 _ _ ew k5)
  have q6:=nla e6
  have hus:us.length=ks.length:=hl3
  refine k ⟨m,dt,dw,lr,l0,l1,lk,la,W,60⟩ _ (fun x o h=>?_) rfl ⟨ak,⟨kt,kp et k4 (Ne.symm m1),hkl,hkt⟩,⟨kw,kp ew k5 (Ne.symm m2),hkwl,hWl,fun j r hr=>?_⟩,kp hN5.er k2 (Ne.symm m3),kp hN5.e0 k0 (Ne.symm m4),kp hN5.e1 k1 (Ne.symm m5),⟨ws,kp6 e6,by omega,fun j u kk hu hk=>?_⟩,by rw [aF (Ne.symm q3)]; exact e7,fun x hx=>?_,?_,fun x hx=>⟨(hW5.fr x hx).1,fun z=>?_⟩,hW5.nd⟩
  ·rw [aF (aB h (hN5.fr m (by simp)))]
   exact s7 _ _ (s06 _ _ h)
  ·obtain ⟨l',ws',y0,x1,x3,x45⟩:=hkw j r hr
   exact ⟨l',ws',y0,x1,kp x3 (nWlk l' (List.mem_of_getElem? y0)) (eF x3 em5),x45⟩
  ·obtain ⟨y,y1,y2,y3,y4,z0,z1,z2,z3,z4,z5,z6,z7,z8,z9,za⟩:=((hws j u kk hu hk)).ex
   exact ⟨y,y1,y2,y3,y4,z0,tt z1,tt z2,tt z3,tt z4,tt z5,kp6 z6,kp6 z7,kp6 z8,kp6 z9,kp6 za⟩
  ·simp only [Md.all,List.mem_cons,List.not_mem_nil,or_false] at hx
   rcases hx with rfl | rfl | rfl | rfl | rfl | rfl | rfl | rfl
   ·exact off (hN5.fr _ (by simp))
   ·exact off (hN5.fr _ (by simp))
   ·exact off (hN5.fr _ (by simp))
   ·exact off (hN5.fr _ (by simp))
   ·exact off (hN5.fr _ (by simp))
   ·exact off (hN5.fr _ (by simp))
   ·exact off flk
   ·exact off fla
  ·unfold Md.all
   simp only [List.nodup_cons,List.mem_cons,List.not_mem_nil,or_false,not_or,not_false_eq_true,and_true]
   exact ⟨⟨m1,m2,m3,m4,m5,k3,q3⟩,⟨t1,t2,t3,t4,k4,q4⟩,⟨w1,w2,w3,k5,q5⟩,⟨r1,r2,k2,q2⟩,⟨l01,k0,q0⟩,⟨k1,q1⟩,q6,trivial,List.nodup_nil⟩
  ·have h6:=(hW5.fr x hx).2
   obtain ⟨vs,hv⟩:=hW5.w.row hx
   have hla':=nla (b6 _ _ hv (nWlk x hx))
   simp only [Md.all,List.mem_cons,List.not_mem_nil,or_false,not_or] at z h6
   rcases z with z | z | z | z | z | z | z | z
   ·exact h6.1 z
   ·exact h6.2.1 z
   ·exact h6.2.2.1 z
   ·exact h6.2.2.2.1 z
   ·exact h6.2.2.2.2.1 z
   ·exact h6.2.2.2.2.2 z
   ·exact nWlk x hx z
   ·exact hla' z
end
theorem Nq (xs:List V) (r:Nat):rM xs none (some (r:Int))=xs.take r:=by
 rcases Nat.le_total r xs.length with h | h
 ·exact Od h
 ·unfold rM
  rw [HT.tO,HT.pR,Nat.min_eq_right h,List.take_of_length_le (show xs.length≤r from h)]
  simp
def G4:Sp:=fun vs H Q _=>∃ (d lo ls:Addr) (M:Md) (L R:List Prt) (ks:List Lnk) (al sp:Nms),vs=[.ref d,.ref M.m,.ref ls]∧bB d lo H∧iZ [d,lo] H M L R ks al∧H ls=some (.lst (sp.map mkT))∧ls≠lo∧sp≠[]∧sp.length≤100∧(L++R).length≤200∧(∀ z∈sp++(L++R).map (·.1),z.length≤1000)∧(∀ p∈L++R,p.2.1.length≤5000) ∧
 ∀ (pd:Addr) (t:Int) (x:List Nat) (e:De) (H':Hp),H' pd=some (.tup (e.vs t x))→e.ok→x.length≤1000→0≤t→t≤1000000000000→bB d lo H'→Old d lo H H'→Q (.ref pd) H'
theorem oR {d lo l:Addr} {H H':Hp} {vs:List V} (hp:bB d lo H) (o:Old d lo H H') (h:H l=some (.lst vs)) (n:l≠lo):H' l=some (.lst vs):=o _ _ h (pJ hp h) n
theorem Ox {M:Md} {n:Nat} (hn:n≤1):atI [V.ref M.l0,V.ref M.l1] (n:Nat)=some (.ref (M.ln n)):=by
 match n,hn with
 | 0,_=>exact bx _ _
 | 1,_=>exact aW (xs:=[V.ref M.l0,V.ref M.l1]) (j:=1) rfl
def WL:List V:=[V.str (Str.ofString "W"),V.str (Str.ofString "new7"),V.str ⟨(List.replicate 4 [65,97,48,122,90]).flatten.toArray⟩,V.str (Str.ofString "0")]
theorem NP {j:Nat} (h:j < 4):∃ wd:List Nat,wd.length≤20∧atI WL (j:Nat)=some (mkT wd):=by
 match j,h with
 | 0,_=>exact ⟨[87],by decide,aW (xs:=WL) (j:=0) (by decide +kernel)⟩
 | 1,_=>exact ⟨[110,101,119,55],by decide,aW (xs:=WL) (j:=1) (by decide +kernel)⟩
 | 2,_=>exact ⟨(List.replicate 4 [65,97,48,122,90]).flatten,by decide,aW (xs:=WL) (j:=2) rfl⟩
 | 3,_=>exact ⟨[48],by decide,aW (xs:=WL) (j:=3) (by decide +kernel)⟩
section
variable {P:Program} {w:World} {K:PySem.W.Frag} {mg:Str→Option Value} {base:Heap}
theorem qg:aQ ["_law_pot_here", "_law_model_here", "_law_spare", "_law_t", "_law_others", "_law_name", "_law_k"] ["_law_pot_here", "_law_model_here", "_law_spare"] (aC Ez):=⟨rfl,rfl,rfl,by decide +kernel,rfl,by decide +kernel,by decide +kernel⟩
theorem Mt (h:Has K mg "_law_deed" Ez ["_law_pot_here", "_law_model_here", "_law_spare"]) (C_moments:Cal P w K mg base "_law_moments" 2 ["_law_pot_here", "_law_many"] iY) (C_next:Cal P w K mg base "_law_next" 1 ["_law_pot_here", "_law_many"] gY) (C_pick:Cal P w K mg base "_law_pick" 2 ["_law_pot_here", "_law_some_here", "_law_others"] GZ) (C_text:Cal P w K mg base "_law_text" 2 ["_law_pot_here"] Ai) (C_spans:Cal P w K mg base "_law_spans" 1 ["_law_text_here"] sG) (m_len:mg "len" = none):Cal P w K mg base "_law_deed" 3 ["_law_pot_here", "_law_model_here", "_law_spare"] G4:=by
 refine h.mk' qg (fun vs H Q E hs=>?_) (fun f cdv A outer s H vs Q E hr hs=>?_)
 ·obtain ⟨d,lo,ls,M,L,R,ks,al,sp,rfl,_⟩:=hs
  rfl
 obtain ⟨d,lo,ls,M,L,R,ks,al,sp,rfl,hp,hM,hls,nls,hsp,hspl,hlen,hnm,htx,k⟩:=hs
 refine ⟨_,(au (aH (i:=3) qg.nd rfl (Or.inl rfl) (aY bQ (bV (aj (aY bC (aK C_moments hr (by decide) rfl (aj (pv 0) (aj aA ao))) aA (fun _ _=>rfl)) (aj aA (aj (aX zf aA aA) ao)))) (aK C_next hr (by decide) rfl (aj (pv 0) (aj aA ao))) (fun _ _=>rfl)))
  (au (aH (i:=4) qg.nd rfl (Or.inl rfl) (aX lW (aX lW (aY bQ (bA (bL hr) (pv 1) aG (fun _ _=>rfl)) aA (fun _ _=>rfl)) (aY bQ (bA (bL hr) (pv 1) aG (fun _ _=>rfl)) aA (fun _ _=>rfl))) (cC Hr (pv 2) dh (dg aA))))
  (au (aH (i:=5) qg.nd rfl (Or.inl rfl) (aK C_pick hr (by decide) rfl (aj (pv 0) (aj (pv 4) (aj (pv 4) ao)))))
  (au (dJ (aZ iT (aK C_next hr (by decide) rfl (aj (pv 0) (aj aA ao))) aA (bF _))
   (aD (aV (cB (aj aG (aj (pv 3) (aj (pv 5) (aj (aK C_text hr (by decide) rfl (aj (pv 0) ao)) ao)))))))
   bH)
  (au (aH (i:=6) qg.nd rfl (Or.inl rfl) (aK C_next hr (by decide) rfl (aj (pv 0) (aj (aX dj (aP cH rfl m_len PySem.boot_len (aj (aK C_spans hr (by decide) rfl (aj (FQ (bL hr) (bA (bL hr) (pv 1) aG (fun _ _=>rfl)) (pv 5) aG ⟨rfl,rfl,rfl,rfl⟩) ao)) ao)) aA) ao))))
  (aD (aV (cB (aj aG (aj (pv 3) (aj (pv 5) (aj (pv 6) (aj (aY bQ (bV (aj aG (aj aG (aj (aX jr aG aA) (aj aG ao))))) (aK C_next hr (by decide) rfl (aj (pv 0) (aj aA ao))) (fun _ _=>rfl)) ao))))))))))))),?_⟩
 refine CG (fun σ H1=>∃ t:Int,0≤t∧t≤1000000000000∧σ=[some (.ref d),some (.ref M.m),some (.ref ls),some (.int t),none,none,none]∧bB d lo H1∧Old d lo H H1) (fun N hN=>?_) ?_
 ·refine ⟨_,rfl,d,lo,1,rfl,hp,by decide,fun q ms H1 e1 g1 hl1 p1 o1=>?_⟩
  obtain ⟨t,rfl⟩:∃ t,ms=[t]:=by
   match ms,hl1 with
   | [t],_=>exact ⟨t,rfl⟩
  have ht:=g1.1 t (.head _)
  refine ⟨q,_,_,_,rfl,rfl,SqT.of e1,bx _ _,?_⟩
  refine ⟨_,_,rfl,rfl,⟨by decide,by decide,by decide⟩,smn 3,fun l hl=>?_⟩
  have s2:=aq hl (.lst [.int t,.int 9,.int ((10:Int) ^ (12:Int).toNat)])
  have e2:(upd H1 l (.lst [.int t,.int 9,.int ((10:Int) ^ (12:Int).toNat)])) l=some (.lst [.int t,.int 9,.int ((10:Int) ^ (12:Int).toNat)]):=ak
  have nlo:l≠lo:=(p1.ne hl).2
  generalize upd H1 l (.lst [.int t,.int 9,.int ((10:Int) ^ (12:Int).toNat)])=H2 at s2 e2 ⊢
  have p2:=p1.same s2
  refine ⟨_,rfl,d,lo,3,rfl,p2,by decide,by decide,fun r H3 r0 r1 p3 o3=>?_⟩
  have e3:=oR p2 o3 e2 nlo
  obtain ⟨n,rfl⟩:=Int.eq_ofNat_of_zero_le r0
  obtain ⟨t',h0,h1,hat⟩:∃ t':Int,0≤t'∧t'≤1000000000000∧atI [V.int t,.int 9,.int ((10:Int) ^ (12:Int).toNat)] (n:Nat)=some (.int t'):=by
   match n,r1 with
   | 0,_=>exact ⟨t,ht.1,ht.2,bx _ _⟩
   | 1,_=>exact ⟨9,by decide,by decide,aW (j:=1) rfl⟩
   | 2,_=>exact ⟨(10:Int) ^ (12:Int).toNat,by decide,by decide,aW (j:=2) rfl⟩
   | n+3,h=>exact absurd h (by omega)
  exact ⟨l,_,_,_,rfl,rfl,SqL.of e3,hat,gN (hN _ _ ⟨t',h0,h1,rfl,p3,(o1.trans (.of s2)).trans o3⟩)⟩
 rintro σ H1 ⟨t,ht0,ht1,rfl,p1,o1⟩
 have hM1:=hM.keep (.old o1)
 have hl1':=hlen
 rw [List.length_append] at hl1'
 have hnl:∀ Z:List Prt,(bG Z).length=Z.length:=fun Z=>by unfold bG; rw [List.length_map]
 refine ⟨_,rfl,M.m,_,rfl,uP hM1.m,M.lr,_,_,_,rfl,rfl,SqL.of hM1.lr,bx _ _,_,rfl,M.m,_,rfl,uP hM1.m,M.lr,_,_,_,rfl,rfl,SqL.of hM1.lr,Ox (n:=1) (Nat.le_refl _),M.l0,M.l1,_,_,rfl,rfl,hM1.l0,hM1.l1,small (by rw [hnl,hnl]; omega),fun l3 hl3=>?_⟩
 have s3:=aq hl3 (.lst (bG L++bG R))
 have e3:(upd H1 l3 (.lst (bG L++bG R))) l3=some (.lst (bG L++bG R)):=ak
 generalize upd H1 l3 (.lst (bG L++bG R))=H3 at s3 e3 ⊢
 have els3:=s3 _ _ (oR hp o1 hls nls)
 refine ⟨_,rfl,_,rfl,ls,_,rfl,SqL.of els3,fun l4 hl4=>?_⟩
 rw [show (1:Int)=((1:Nat):Int) from rfl,Nq]
 have s4:=aq hl4 (.lst ((sp.map mkT).take 1))
 have e4:(upd H3 l4 (.lst ((sp.map mkT).take 1))) l4=some (.lst ((sp.map mkT).take 1)):=ak
 generalize upd H3 l4 (.lst ((sp.map mkT).take 1))=H4 at s4 e4 ⊢
 refine ⟨l3,l4,_,_,rfl,rfl,s4 _ _ e3,e4,small (by rw [List.length_append,hnl,hnl,List.length_take]; omega),fun l5 hl5=>?_⟩
 have hoe:bG L++bG R++(sp.map mkT).take 1=((L++R).map (·.1)++sp.take 1).map mkT:=by
  rw [vY,vY,List.map_append,List.map_append,List.map_append,List.map_take]
 rw [hoe]
 have s5:=aq hl5 (.lst (((L++R).map (·.1)++sp.take 1).map mkT))
 have e5:(upd H4 l5 (.lst (((L++R).map (·.1)++sp.take 1).map mkT))) l5=some (.lst (((L++R).map (·.1)++sp.take 1).map mkT)):=ak
 have p4:=(p1.same s3).same s4
 have nl5:l5≠lo:=(p4.ne hl5).2
 generalize upd H4 l5 (.lst (((L++R).map (·.1)++sp.take 1).map mkT))=H5 at s5 e5 ⊢
 have o5:Old d lo H H5:=o1.trans (.of ((s3.trans s4).trans s5))
 have p5:=p4.same s5
 have hne:(L++R).map (·.1)++sp.take 1≠[]:=fun z=>by
  have:=(List.append_eq_nil_iff.mp z).2
  match sp,hsp,this with
  | _ :: _,_,h=>cases h
 have hol:((L++R).map (·.1)++sp.take 1).length≤900:=by rw [List.length_append,List.length_map,List.length_take]; omega
 have hon:∀ z∈(L++R).map (·.1)++sp.take 1,z.length≤1000:=fun z hz=>hnm z (by
  rcases List.mem_append.mp hz with h | h
  ·exact List.mem_append_right _ h
  ·exact List.mem_append_left _ (List.mem_of_mem_take h))
 clear hM1 s3 s4 s5 e3 e4 hl3 hl4 hl5 els3 o1 p1 p4 hoe
 generalize (L++R).map (·.1)++sp.take 1=ons at e5 hne hol hon ⊢
 refine ⟨_,rfl,_,rfl,_,rfl,d,lo,l5,l5,ons,ons,rfl,p5,e5,e5,nl5,nl5,hne,hol,hol,fun x H7 hx p7 o7=>?_⟩
 have hxl:x.length≤1000:=by
  rcases List.mem_append.mp hx with h | h <;> exact hon x h
 refine ⟨_,rfl,d,lo,3,rfl,p7,by decide,by decide,fun r H8 r0 r1 p8 o8=>⟨rfl,_,rfl,?_⟩⟩
 have o08:=(o5.trans o7).trans o8
 refine gR (fun z=>?_) (fun z=>?_)
 ·refine ⟨_,rfl,_,rfl,_,rfl,d,lo,rfl,p8,fun tx Hc hc1 hc2 pc oc=>⟨smn 4,fun pd hpd=>?_⟩⟩
  have sd:=aq hpd (.tup [.str yL,.int t,mkT x,mkT tx])
  exact k pd t x (.chg tx) _ ak hc1 hxl ht0 ht1 (pc.same sd) ((o08.trans oc).trans (.of sd))
 ·have hM8:=hM.keep (.old o08)
  obtain ⟨kt,et,_,_,hkk⟩:=hM8.t.ex
  obtain ⟨cs,hcs,hcv⟩:∃ cs:List Nat,cs.length≤5000∧(d8 kt (nk x)).getD (.str (Str.ofString ""))=mkT cs:=by
   cases c:d8 kt (nk x) with
   | none=>exact ⟨[],by decide,by show V.str (Str.ofString "")=mkT []; decide +kernel⟩
   | some v =>
    obtain ⟨p,hpm,_,e⟩:=hkk _ _ c
    exact ⟨p.2.1,htx p hpm,e⟩
  obtain ⟨o,ho,hov⟩:∃ o,dU H8 M.dt (mkT x) o∧o.getD (V.str (Str.ofString ""))=mkT cs:=⟨_,dU.k (k:=nk x) et,hcv⟩
  refine ⟨_,rfl,_,rfl,M.m,_,rfl,vB hM8.m,M.dt,rfl,.inl ⟨kt,Rd.of et⟩,_,rfl,o,ho,cs,congrArg (fun v=>[v]) hov,hcs,fun l us H9 s9 e9 d9=>?_⟩
  have hul:=d9.len
  rw [List.length_map] at hul
  have hsl:(M22.spans cs).length≤cs.length:=M22.xZ cs cs.length
  refine ⟨l,_,rfl,.inl (SqL.of e9),_,_,rfl,rfl,d,lo,((us.length:Nat):Int)+1,rfl,p8.same s9,by omega,by omega,fun r9 Ha a0 a1 pa oa=>gN ?_⟩
  obtain ⟨n,rfl⟩:=Int.eq_ofNat_of_zero_le a0
  refine ⟨_,rfl,_,rfl,_,rfl,[65,97,48,122,90],4,(by decide +kernel),rfl,by decide,by decide,smn 4,fun lw hlw=>?_⟩
  have sw:=aq hlw (.lst WL)
  have ew:(upd Ha lw (.lst WL)) lw=some (.lst WL):=ak
  have nlw:lw≠lo:=(pa.ne hlw).2
  have pb:=pa.same sw
  have ob:Old d lo H (upd Ha lw (.lst WL)):=((o08.trans (.of s9)).trans oa).trans (.of sw)
  generalize hHb:upd Ha lw (.lst WL)=Hb at sw ew pb ob
  have hHb:upd Ha lw (.lst [V.str (Str.ofString "W"),V.str (Str.ofString "new7"),V.str ⟨(List.replicate 4 [65,97,48,122,90]).flatten.toArray⟩,V.str (Str.ofString "0")])=Hb:=hHb
  rw [hHb]
  refine ⟨_,rfl,d,lo,4,rfl,pb,by decide,by decide,fun r2 Hc b0 b1 pc oc=>?_⟩
  obtain ⟨j,rfl⟩:=Int.eq_ofNat_of_zero_le b0
  obtain ⟨wd,hwd,hat⟩:=NP (j:=j) (by omega)
  refine ⟨lw,_,_,_,rfl,rfl,SqL.of (oR pb oc ew nlw),hat,smn 5,fun pd hpd=>?_⟩
  have sd:=aq hpd (.tup [.str wA,.int t,mkT x,.int (n:Nat),mkT wd])
  exact k pd t x (.wrd n wd) _ ak ⟨by omega,hwd⟩ hxl ht0 ht1 (pc.same sd) ((ob.trans oc).trans (.of sd))
end
theorem qQ {α:Type} [DecidableEq α]:∀ {xs ys:List α},xs.Nodup→(∀ x∈xs,x∈ys)→xs.length≤ys.length
 | [],_,_,_=>Nat.zero_le _
 | x :: xs,ys,h,s=>by
  obtain ⟨hx,h'⟩:=List.nodup_cons.mp h
  have hm:=s x (.head _)
  have:=qQ (xs:=xs) (ys:=ys.erase x) h' fun y hy=>(List.mem_erase_of_ne (fun e:y=x=>hx (by rw [← e]; exact hy))).mpr (s y (.tail _ hy))
  rw [List.length_erase_of_mem hm] at this
  have:=List.length_pos_of_mem hm
  rw [List.length_cons]
  omega
structure Wk (L R:List Prt) (sp:Nms) (i:Nat):Prop where
 mo:∀ p∈L++R,p.2.2.Pairwise (· < ·)∧p.2.2.length≤20+i∧p.2.1.length≤1000+20 * i∧p.1.length≤1000
 nd:((L++R).map (·.1)).Nodup
 lL:L.length≤12
 lR:R.length≤12
 sl:sp≠[]
 su:sp.length≤70
 sm:∀ x∈sp,x.length≤1000
 sd:∀ x∈sp,x ∉ (L++R).map (·.1)
structure Wf (ks:List Lnk) (al:Nms):Prop where
 gl:∀ k∈ks,n8 k
 up:ks.Pairwise fun a b=>dlt (bY a) (bY b)=true
 lk:ks.length≤60
 kn:∀ k∈ks,k.1.length≤60∧k.2.1.length≤60∧k.2.2.2.1.length≤60∧k.2.2.2.2.length≤60
 ga:wK al
 la:al.length≤60
theorem Wk.tell {L R:List Prt} {ks:List Lnk} {al sp:Nms} {i:Nat} (h:Wk L R sp i) (f:Wf ks al) (hi:i≤36):Ny L R ks al:=⟨fun p hp=>⟨(h.mo p hp).1,by have:=(h.mo p hp).2.1; omega⟩,by have:=h.lL; omega,by have:=h.lR; omega,f.gl,f.up,f.lk,f.kn,f.ga,f.la⟩
theorem Wk.sm' {L R:List Prt} {sp:Nms} {i:Nat} (h:Wk L R sp i) (hi:i≤36):SmB L R:=⟨by have:=h.lL; omega,by have:=h.lR; omega,fun p hp=>⟨by have:=(h.mo p hp).2.1; omega,(h.mo p hp).1⟩⟩
theorem BR (n:Nat) (x:List Nat):Pl n (sD x):=by cases n <;> exact trivial
theorem yt (n:Nat) (x:Int):Pl n (.int x):=by cases n <;> exact trivial
theorem yC {n:Nat} {ms:List Int} (h:ms.length≤1000):Pl (n+1) (CJ ms):=⟨by rw [List.length_map]; exact h,fun d hd=>by
 obtain ⟨i,_,rfl⟩:=List.mem_map.mp hd
 exact yt _ _⟩
theorem n6 {n:Nat} {ns:Nms} (h:ns.length≤1000):Pl (n+1) (gq ns):=⟨by rw [List.length_map]; exact h,fun d hd=>by
 obtain ⟨i,_,rfl⟩:=List.mem_map.mp hd
 exact BR _ _⟩
theorem yU {p:Prt} (h:p.2.2.length≤1000):Pl 2 (bw p):=⟨by show 3≤1000; omega,fun d hd=>by
 simp only [List.mem_cons,List.not_mem_nil,or_false] at hd
 rcases hd with rfl | rfl | rfl
 ·exact BR _ _
 ·exact BR _ _
 ·exact yC h⟩
theorem Jl {k:Lnk} (h:k.1.length≤60∧k.2.1.length≤60∧k.2.2.2.1.length≤60∧k.2.2.2.2.length≤60):Pl 3 (bY k):=⟨by show 4≤1000; omega,fun d hd=>by
 simp only [List.mem_cons,List.not_mem_nil,or_false] at hd
 rcases hd with rfl | rfl | rfl | rfl
 ·exact n6 (by omega)
 ·exact n6 (by omega)
 ·exact yt _ _
 ·refine ⟨by show 2≤1000; omega,fun d hd=>?_⟩
  simp only [List.mem_cons,List.not_mem_nil,or_false] at hd
  rcases hd with rfl | rfl
  ·exact yC (by omega)
  ·exact yC (by omega)⟩
theorem Hl:∀ {n:Nat} {d:D},Pl n d→Pl (n+1) d
 | _,.int _,_=>yt _ _
 | n,.str _,_=>by cases n <;> exact trivial
 | n+1,.tup ds,h=>⟨h.1,fun d hd=>Hl (h.2 d hd)⟩
 | 0,.tup _,h=>h.elim
 | n,.non,h=>by cases n <;> exact h.elim
 | n,.bl _,h=>by cases n <;> exact h.elim
theorem IK {L R:List Prt} {ks:List Lnk} {al:Nms} (h:Ny L R ks al):Pl 5 (cU L R ks al):=⟨by show 4≤1000; omega,fun d hd=>by
 simp only [List.mem_cons,List.not_mem_nil,or_false] at hd
 have h1:=h.lL
 have h2:=h.lR
 have h3:=h.lk
 have h4:=h.la
 rcases hd with rfl | rfl | rfl | rfl
 ·refine ⟨by rw [List.length_map]; omega,fun d hd=>?_⟩
  obtain ⟨p,hp,rfl⟩:=List.mem_map.mp hd
  exact Hl (yU (by have:=(h.mo p (List.mem_append_left _ hp)).2; omega))
 ·refine ⟨by rw [List.length_map]; omega,fun d hd=>?_⟩
  obtain ⟨p,hp,rfl⟩:=List.mem_map.mp hd
  exact Hl (yU (by have:=(h.mo p (List.mem_append_right _ hp)).2; omega))
 ·refine ⟨by rw [List.length_map]; omega,fun d hd=>?_⟩
  obtain ⟨k,hk,rfl⟩:=List.mem_map.mp hd
  exact Jl (h.kn k hk)
 ·exact n6 (by omega)⟩
def sel {α:Type}:Option Nat→α→α→α
 | none,_,b=>b
 | some _,a,_=>a
theorem uT (Z:List Prt) (q:Prt):(mH Z q).map (·.1)=Z.map (·.1):=by
 unfold mH
 rw [List.map_map]
 refine List.map_congr_left fun r _=>?_
 show (if r.1=q.1 then q else r).1=r.1
 split
 ·rename_i h; exact h.symm
 ·rfl
theorem Dy (L R:List Prt) (q:Prt):(jE L R q).1.length=L.length∧(jE L R q).2.length=R.length:=by
 unfold jE gQ sdP mH
 split
 ·exact ⟨List.length_map _,rfl⟩
 ·exact ⟨rfl,List.length_map _⟩
theorem Jp {cs wd tx:List Nat} {n:Nat} (h:vh cs n wd=some tx) (hw:wd.length≤20):tx.length≤cs.length+20:=by
 unfold vh at h
 cases z:(M22.spans cs)[n]? with
 | none=>rw [z] at h; cases h
 | some p =>
  rw [z] at h
  have e:cs.take p.1++wd++cs.drop p.2=tx:=Option.some.inj h
  have hg:=M22.rE cs n p z
  have h12:p.1≤p.2:=by rw [hg.2.1]; exact Nat.le_add_right _ _
  rw [← e,List.length_append,List.length_append,List.length_take,List.length_drop]
  have:=hg.2.2.2.1
  omega
theorem EY {e:De} {L R:List Prt} {x:List Nat} {t:Int} (h:deE e L R x=none):∃ q tx,bK (L++R) x=some q∧e.new q.2.1=some tx∧deP e L R x t=(x,tx,gw q.2.2 t):=by
 unfold deE at h
 unfold deP
 cases z:bK (L++R) x with
 | none=>rw [z] at h; cases h
 | some q =>
  rw [z] at h
  cases y:e.new q.2.1 with
  | none =>
   have h:(match e.new q.2.1 with | none=>some 1 | some _=>none)=none:=h
   rw [y] at h
   cases h
  | some tx =>
   refine ⟨q,tx,rfl,y,?_⟩
   show (x,(e.new q.2.1).getD [],gw q.2.2 t)=_
   rw [y]
   rfl
theorem J7 {e:De} {L R:List Prt} {x:List Nat} {c:Nat} (h:deE e L R x=some c):c≤2:=by
 unfold deE at h
 split at h
 ·cases h; omega
 ·split at h
  ·cases h; omega
  ·cases h
theorem De.len {e:De} {old tx:List Nat} (h:e.ok) (hn:e.new old=some tx):tx.length≤400∨tx.length≤old.length+20:=by
 rcases ur e with ⟨y,rfl⟩ | ⟨n,wd,rfl⟩
 ·have:y=tx:=Option.some.inj hn
  rw [← this]
  exact .inl h
 ·exact .inr (Jp hn h.2)
theorem Wk.next {L R:List Prt} {sp:Nms} {i:Nat} (h:Wk L R sp i) {e:De} {x:List Nat} {t:Int} (ho:e.ok) (hE:deE e L R x=none) (hx:x.length≤1000):Wk (jE L R (deP e L R x t)).1 (jE L R (deP e L R x t)).2 sp (i+1):=by
 obtain ⟨q,tx,h1,h2,h3⟩:=EY (t:=t) hE
 obtain ⟨hqm,hqx⟩:=nj h1
 rw [h3]
 have hap:=uQ (q:=(x,tx,gw q.2.2 t)) h.nd
 obtain ⟨l1,l2⟩:=Dy L R (x,tx,gw q.2.2 t)
 have hL:=h.lL
 have hR:=h.lR
 have hq:=h.mo q hqm
 refine ⟨fun p hp=>?_,by rw [hap,uT]; exact h.nd,by omega,by omega,h.sl,h.su,h.sm,fun z hz=>by rw [hap,uT]; exact h.sd z hz⟩
 rw [hap] at hp
 obtain ⟨j,hj⟩:=List.mem_iff_getElem?.mp hp
 obtain ⟨r,hr,er⟩:=uc hj
 rw [er]
 split
 ·have h5:=vL t q.2.2
  refine ⟨rQ hq.1,by show (gw q.2.2 t).length≤_; omega,?_,hx⟩
  show tx.length≤_
  rcases De.len ho h2 with h | h <;> omega
 ·have:=h.mo r (List.mem_of_getElem? hr)
  exact ⟨this.1,by omega,by omega,this.2.2.2⟩
theorem Wk.stay {L R:List Prt} {sp:Nms} {i:Nat} (h:Wk L R sp i):Wk L R sp (i+1):=⟨fun p hp=>⟨(h.mo p hp).1,by have:=(h.mo p hp).2.1; omega,by have:=(h.mo p hp).2.2.1; omega,(h.mo p hp).2.2.2⟩,h.nd,h.lL,h.lR,h.sl,h.su,h.sm,h.sd⟩
theorem IW {C:Nat→Addr} {L R:List Prt} {ks:List Lnk} {al:Nms} {pd:Addr} {t:Int} {x:List Nat} {e:De} {v:V} {Q:VK} {E:XK} {H:Hp} (hd:H pd=some (.tup (e.vs t x))) (ho:e.ok) (hx:x.length≤1000) (hs:SmB L R) (ht:∀ p∈L++R,p.2.1.length≤5000) (dv:Den H v (cU L R ks al))
  (k1:deE e L R x=none→∀ (u:V) (H3:Hp),Same H H3→Den H3 u (cU (jE L R (deP e L R x t)).1 (jE L R (deP e L R x t)).2 ks al)→Q u H3) (k2:∀ c,deE e L R x=some c→cJ (C c) H E):nA C [v,.ref pd] H Q E:=by
 have un:∀ {q:Prt} {tx:List Nat},bK (L++R) x=some q→e.new q.2.1=some tx→deE e L R x=none∧deP e L R x t=(x,tx,gw q.2.2 t):=fun {q tx} h1 h2=>by
  constructor
  ·unfold deE
   rw [h1]
   show (match e.new q.2.1 with | none=>some 1 | some _=>none)=none
   rw [h2]
  ·unfold deP
   rw [h1]
   show (x,(e.new q.2.1).getD [],gw q.2.2 t)=_
   rw [h2]
   rfl
 have n0:bK (L++R) x=none→deE e L R x=some 0:=fun h=>by unfold deE; rw [h]
 have n1:∀ q,bK (L++R) x=some q→e.new q.2.1=none→deE e L R x=some 1:=fun q h1 h2=>by
  unfold deE
  rw [h1]
  show (match e.new q.2.1 with | none=>some 1 | some _=>none)=some 1
  rw [h2]
 rcases ur e with ⟨y,he⟩ | ⟨n,wd,he⟩
 ·have hd':H pd=some (.tup [.str yL,.int t,mkT x,mkT y]):=by rw [hd,he]; rfl
  refine .inl ⟨v,pd,t,x,y,L,R,ks,al,rfl,dv,hd',hx,hs,fun q hq=>?_,fun z=>k2 0 (n0 z)⟩
  obtain ⟨u1,u2⟩:=un hq (tx:=y) (by rw [he]; rfl)
  rw [← u2]
  exact k1 u1
 ·have hd':H pd=some (.tup [.str wA,.int t,mkT x,.int (n:Nat),mkT wd]):=by rw [hd,he]; rfl
  have ho':n≤10000∧wd.length≤20:=by rw [he] at ho; exact ho
  refine .inr ⟨v,pd,t,x,n,wd,L,R,ks,al,rfl,dv,hd',hx,by omega,ho'.1,hs,ht,fun q tx hq htx=>?_,fun z=>k2 0 (n0 z),fun q hq hno=>k2 1 (n1 q hq (by rw [he]; exact hno))⟩
  obtain ⟨u1,u2⟩:=un hq (tx:=tx) (by rw [he]; exact htx)
  rw [← u2]
  exact k1 u1
theorem J4 {o:Option Nat}:(!decide (V.str (qj o)=V.str (Str.ofString "")))=true↔o≠none:=by
 match o with
 | none=>exact ⟨fun z=>absurd z (by decide +kernel),fun z=>absurd rfl z⟩
 | some 0=>exact ⟨fun _ z=>(nomatch z),fun _=>by decide +kernel⟩
 | some 1=>exact ⟨fun _ z=>(nomatch z),fun _=>by decide +kernel⟩
 | some (n+2)=>exact ⟨fun _ z=>(nomatch z),fun _=>by show (!decide (V.str (Str.ofString "Twice")=V.str (Str.ofString "")))=true; decide +kernel⟩
theorem qI {L R:List Prt} {ks:List Lnk} {al:Nms} (h:Ny L R ks al):eO 5 (cU L R ks al):=by
 have h1:=h.lL
 have h2:=h.lR
 have h3:=h.lk
 have h4:=h.la
 refine cV (by show 4≤100000; omega) fun d hd=>?_
 simp only [List.mem_cons,List.not_mem_nil,or_false] at hd
 rcases hd with rfl | rfl | rfl | rfl
 ·refine cV (by rw [List.length_map]; omega) fun d hd=>?_
  obtain ⟨p,hp,rfl⟩:=List.mem_map.mp hd
  exact (jd (by have:=(h.mo p (List.mem_append_left _ hp)).2; omega)).up
 ·refine cV (by rw [List.length_map]; omega) fun d hd=>?_
  obtain ⟨p,hp,rfl⟩:=List.mem_map.mp hd
  exact (jd (by have:=(h.mo p (List.mem_append_right _ hp)).2; omega)).up
 ·refine cV (by rw [List.length_map]; omega) fun d hd=>?_
  obtain ⟨k,hk,rfl⟩:=List.mem_map.mp hd
  exact mC (h.gl k hk)
 ·exact (jC (by omega)).up.up.up
theorem iZ.shrink {S T:List Addr} {H:Hp} {M:Md} {L R:List Prt} {ks:List Lnk} {al:Nms} (h:iZ S H M L R ks al) (hs:∀ a∈T,a∈S):iZ T H M L R ks al:=by
 have tt:∀ {b:Addr},b ∉ M.W++S→b ∉ M.W++T:=fun n z=>by
  simp only [List.mem_append,not_or] at n z
  rcases z with z | z
  ·exact n.1 z
  ·exact n.2 (hs _ z)
 obtain ⟨us,eu,hul,hus⟩:=h.lk.ex
 refine ⟨h.m,h.t,h.w,h.lr,h.l0,h.l1,⟨us,eu,hul,fun i u k hu hk=>?_⟩,h.la,fun b hb z=>h.off b hb (hs _ z),h.nd,fun a ha=>⟨fun z=>(h.wo a ha).1 (hs _ z),(h.wo a ha).2⟩,h.wn⟩
 obtain ⟨q,c1,c2,c3,c4,e,n1,n2,n3,n4,n5,e1,e2,e3,e4,e5⟩:=(hus i u k hu hk).ex
 exact ⟨q,c1,c2,c3,c4,e,tt n1,tt n2,tt n3,tt n4,tt n5,e1,e2,e3,e4,e5⟩
theorem iZ.more {S:List Addr} {H:Hp} {M:Md} {L R:List Prt} {ks:List Lnk} {al:Nms} (h:iZ S H M L R ks al):iZ S H { M with b:=M.b+1 } L R ks al:=by
 obtain ⟨kt,e,hn,hw,f⟩:=h.w.ex
 refine ⟨h.m,h.t,⟨kt,e,hn,hw,fun i p hp=>?_⟩,h.lr,h.l0,h.l1,h.lk,h.la,h.off,h.nd,h.wo,h.wn⟩
 obtain ⟨l,ws,g1,g2,g3,g4,g5⟩:=f i p hp
 exact ⟨l,ws,g1,g2,g3,Nat.le_succ_of_le g4,g5⟩
structure Dd (C:Nat→Addr) (d lo:Addr) (M:Md) (L R:List Prt) (ks:List Lnk) (al sp:Nms) (i:Nat) (H:Hp) (pd:Addr) (o:Option Nat) (L' R':List Prt):Prop where
 le:∀ e,o=some e→e≤2
 dn:∀ (v:V) (Q:VK) (E:XK) (H2:Hp),(∀ (b:Addr) (vs:List V),H b=some (.tup vs)→H2 b=some (.tup vs))→Den H2 v (cU L R ks al)→(o=none→∀ (u:V) (H3:Hp),Same H2 H3→Den H3 u (cU L' R' ks al)→Q u H3)→(∀ e,o=some e→cJ (C e) H2 E)→nA C [v,.ref pd] H2 Q E
 du:∀ (Q:VK) (E:XK) (H2:Hp),(∀ (b:Addr) (vs:List V),H b=some (.tup vs)→H2 b=some (.tup vs))→iZ [d,lo] H2 M L R ks al→(∀ e,o=some e→∀ H3,Same H2 H3→Q (.str (qj (some e))) H3)→(o=none→∀ H3,Keep (M.dt :: M.W) H2 H3→iZ [d,lo] H3 { M with b:=M.b+1 } L' R' ks al→Q (.str (qj none)) H3)→Nv [.ref M.m,.ref pd] H2 Q E
 wk:Wk (sel o L L') (sel o R R') sp (i+1)
theorem O8 {C:Nat→Addr} {d lo:Addr} {M:Md} {L R:List Prt} {ks:List Lnk} {al sp:Nms} {i:Nat} {H:Hp} {pd:Addr} {t:Int} {x:List Nat} {e:De} (hd:H pd=some (.tup (e.vs t x))) (ho:e.ok) (hx:x.length≤1000) (hw:Wk L R sp i) (hi:i < 36) (hb:M.b≤500):Dd C d lo M L R ks al sp i H pd (deE e L R x) (jE L R (deP e L R x t)).1 (jE L R (deP e L R x t)).2:=by
 have ht:∀ p∈L++R,p.2.1.length≤5000:=fun p hp=>by have:=(hw.mo p hp).2.2.1; omega
 have hl:(L++R).length≤200:=by have:=hw.lL; have:=hw.lR; rw [List.length_append]; omega
 refine ⟨fun c h=>J7 h,fun v Q E H2 s2 dv k1 k2=>IW (s2 _ _ hd) ho hx (hw.sm' (by omega)) ht dv k1 k2,fun Q E H2 s2 hM k1 k2=>⟨[d,lo],M,L,R,ks,al,pd,t,x,e,rfl,hM,s2 _ _ hd,ho,hl,hw.nd,ht,hb,k1,k2⟩,?_⟩
 cases z:deE e L R x with
 | none=>exact hw.next ho z hx
 | some c=>exact hw.stay
def vP (K:PySem.W.Frag) (te:Addr) (A C:Nat→Addr):Sp:=fun vs H Q _=>∃ (d lo ls:Addr) (v:V) (L R:List Prt) (ks:List Lnk) (al sp:Nms),vs=[.ref d,v,.ref ls,.int 36]∧bB d lo H∧Den H v (cU L R ks al)∧H ls=some (.lst (sp.map mkT))∧ls≠lo∧Wk L R sp 0∧Wf ks al∧(∀ e,e≤2→KC K te A e∧C e=A e)∧∀ H',Q (.bl true) H'
theorem yu {L R:List Prt} {z:List Nat}:decide (kh L R z=V.non)=decide (z ∉ (L++R).map (·.1)):=by
 rw [Bool.eq_iff_iff,decide_eq_true_eq,decide_eq_true_eq,jB,dM,decide_eq_true_eq]
section
variable {P:Program} {w:World} {K:PySem.W.Frag} {mg:Str→Option Value} {base:Heap} {a_NoPart a_TwainError a_NoPlace a_Twice a_Linked a_Apart a_NoDeed a_NoText:Addr}
theorem dX:aQ ["_law_pot_here", "_law_book_here", "_law_spare", "_law_many", "_law_model_here", "_law_k", "_law_deed_here", "_law_told", "_law_word"] ["_law_pot_here", "_law_book_here", "_law_spare", "_law_many"] (aC lK):=⟨rfl,rfl,rfl,by decide +kernel,rfl,by decide +kernel,by decide +kernel⟩
theorem Es (h:Has K mg "_law_walked" lK ["_law_pot_here", "_law_book_here", "_law_spare", "_law_many"]) (C_model:Cal P w K mg base "_law_model" 1 ["_law_book_here"] Bh) (C_deed:Cal P w K mg base "_law_deed" 3 ["_law_pot_here", "_law_model_here", "_law_spare"] G4) (C_tried:Cal P w K mg base "_law_tried" 6 ["_law_book_here", "_law_deed_here"] (yH K a_TwainError (a7 a_NoPart a_NoPlace a_Twice a_Linked a_Apart a_NoDeed a_NoText) (c3 a_NoPart a_NoPlace a_Twice))) (C_do:Cal P w K mg base "_law_do" 4 ["_law_model_here", "_law_deed_here"] Nv) (C_kinds:Cal P w K mg base "_law_kinds" 6 ["_law_thing"] (yG 6)) (C_as_book:Cal P w K mg base "_law_as_book" 1 ["_law_model_here"] vo) (C_side:Cal P w K mg base "_law_side" 1 ["_law_model_here", "_law_name"] Bu) (m_range:mg "range" = none):Cal P w K mg base "_law_walked" 7 ["_law_pot_here", "_law_book_here", "_law_spare", "_law_many"] (vP K a_TwainError (a7 a_NoPart a_NoPlace a_Twice a_Linked a_Apart a_NoDeed a_NoText) (c3 a_NoPart a_NoPlace a_Twice)):=by
 refine h.mk' dX (fun vs H Q E hs=>?_) (fun f cdv A outer s H vs Q E hr hs=>?_)
 ·obtain ⟨d,lo,ls,v,L,R,ks,al,sp,rfl,_⟩:=hs
  rfl
 obtain ⟨d,lo,ls,v,L,R,ks,al,sp,rfl,hp,hv,hls,nls,hw,hf,hkc,k⟩:=hs
 refine ⟨_,(au (aH (i:=4) dX.nd rfl (Or.inr rfl) (aK C_model hr (by decide) rfl (aj (pv 1) ao)))
  (au (dB PassesOwn.never rfl (cA rfl m_range (aj (pv 3) ao)) (aO (i:=5) dX.nd rfl (Or.inl rfl))
   (au (aH (i:=6) dX.nd rfl (Or.inl rfl) (aK C_deed hr (by decide) rfl (aj (pv 0) (aj (pv 4) (aj (pv 2) ao)))))
  (au (Bl (aK C_tried hr (by decide) rfl (aj (pv 1) (aj (pv 6) ao))) (uD (n:=2) rfl (bR (aO (i:=7) dX.nd rfl (Or.inl rfl)) (bR (aO (i:=8) dX.nd rfl (Or.inl rfl)) kI))))
  (au (dJ (aZ MF (pv 8) (aK C_do hr (by decide) rfl (aj (pv 4) (aj (pv 6) ao))) (bF _))
   (aD (aV wF))
   bH)
  (au (dJ (aZ iT (pv 8) aG (bF _))
   (au (dJ (PW.pt (CN (aZ (G5 hr.units) (pv 7) (aK C_as_book hr (by decide) rfl (aj (pv 4) ao)) (bF _)) (vd (GF (uz (aK C_kinds hr (by decide) rfl (aj (pv 7) ao)))))))
   (aD (aV wF))
   bH)
  (au (dJ (aZ (G5 hr.units) (aK C_tried hr (by decide) rfl (aj (pv 1) (aj (pv 6) ao))) (cB (aj (pv 7) (aj aG ao))) (bF _))
   (aD (aV wF))
   bH)
  (aD (aH (i:=1) dX.nd rfl (Or.inl rfl) (pv 7)))))
   bH)
  (aD (ug (ix:=2) dX.nd rfl rfl ["_law_pot_here", "_law_book_here", "_law_spare", "_law_many", "_law_model_here", "_law_k", "_law_deed_here", "_law_told", "_law_word"] (aC lK) ["_law_model_here", "_law_name"] [some 4,none] rfl rfl rfl (jw (pv 2)) rfl (by decide +kernel) (by decide +kernel) (by decide +kernel) (by decide +kernel) (hg:=fun cl C s H ex pn E=>(aO (i:=1) (by decide +kernel:(["_law_model_here", "_law_name"]:List Str).Nodup) rfl (Or.inl rfl))) (ht:=fun cl C s H ex pn E=>(u6 (aZ Aq (aK C_side hr (by decide) rfl (aj (pv 0) (aj (pv 1) ao))) jK (bF _)))) (he:=fun cl C s H ex pn E=>(pv 1)))))))))
  (aD (aV wF)))),?_⟩
 have hpS:∀ {H':Hp},bB d lo H'→∀ a∈[d,lo],∃ o,H' a=some o:=fun h a ha=>by
  obtain ⟨cs,x,y,z,e1,e2,_⟩:=h
  simp only [List.mem_cons,List.not_mem_nil,or_false] at ha
  rcases ha with rfl | rfl
  ·exact ⟨_,e1⟩
  ·exact ⟨_,e2⟩
 have w1:=hw.lL
 have w2:=hw.lR
 have w3:=hf.lk
 refine ⟨_,rfl,[d,lo,ls],v,L,R,ks,al,rfl,hv,fun a ha=>?_,by omega,by omega,by omega,hw.nd,fun p hp=>by have:=(hw.mo p hp).2.1; omega,fun M H1 s1 hMb hM=>?_⟩
 ·simp only [List.mem_cons,List.not_mem_nil,or_false] at ha
  rcases ha with rfl | rfl | rfl
  ·exact hpS hp _ (by simp)
  ·exact hpS hp _ (by simp)
  ·exact ⟨_,hls⟩
 have nW:ls ∉ M.W:=fun z=>(hM.wo ls z).1 (by simp)
 have hM1:=hM.shrink (T:=[d,lo]) (fun a ha=>by simp only [List.mem_cons,List.not_mem_nil,or_false] at ha ⊢; rcases ha with h | h <;> simp [h])
 refine ⟨_,rfl,36,rfl,by omega,by omega,?_⟩
 refine eE (lo:=0) (n:=(36:Int).toNat) (fun i σ H'=>∃ (v5 v6 v7 v8:Option V) (v:V) (ls:Addr) (M:Md) (L R:List Prt) (sp:Nms),σ=[some (.ref d),some v,some (.ref ls),some (.int 36),some (.ref M.m),v5,v6,v7,v8]∧bB d lo H'∧Den H' v (cU L R ks al)∧iZ [d,lo] H' M L R ks al∧M.b≤60+i∧H' ls=some (.lst (sp.map mkT))∧ls≠lo∧ls ∉ M.W∧Wk L R sp i) ⟨_,_,_,_,v,ls,M,L,R,sp,rfl,hp.same s1,hv.same s1,hM1,by omega,s1 _ _ hls,nls,nW,hw⟩ ?_ ?_
 ·clear hp hv hls nls hw hM hM1 nW s1 hMb H1 v ls M L R sp w1 w2
  rintro i σ H1 hi ⟨v5,v6,v7,v8,v,ls,M,L,R,sp,rfl,p1,dv,hM1,hMb,els,nls,nW,hw⟩
  have hi40:i < 36:=hi
  have w1:=hw.lL
  have w2:=hw.lR
  have wsu:=hw.su
  have hlen:(L++R).length≤200:=by rw [List.length_append]; omega
  have off4:∀ {a:Addr},a∈[d,lo]→a ∉ M.dt :: M.W:=fun {a} ha z=>by
   rcases List.mem_cons.mp z with z | z
   ·exact hM1.off M.dt (by simp [Md.all]) (by rw [← z]; exact ha)
   ·exact (hM1.wo a z).1 ha
  have hnm:∀ z∈sp++(L++R).map (·.1),z.length≤1000:=fun z hz=>by
   rcases List.mem_append.mp hz with h | h
   ·exact hw.sm z h
   ·obtain ⟨p,hp,e⟩:=List.mem_map.mp h
    rw [← e]
    exact (hw.mo p hp).2.2.2
  refine JT fun E hE=>gN ?_
  refine CG (fun σ H'=>∃ (pd:Addr) (o:Option Nat) (L' R':List Prt),σ=[some (.ref d),some v,some (.ref ls),some (.int 36),some (.ref M.m),some (.int (0+(i:Nat))),some (.ref pd),v7,v8]∧bB d lo H'∧Old d lo H1 H'∧Dd (c3 a_NoPart a_NoPlace a_Twice) d lo M L R ks al sp i H' pd o L' R') (fun N hN=>?_) ?_
  ·exact ⟨_,rfl,_,rfl,_,rfl,d,lo,ls,M,L,R,ks,al,sp,rfl,p1,hM1,els,nls,hw.sl,by omega,hlen,hnm,fun p hp=>by have:=(hw.mo p hp).2.2.1; omega,fun pd t x e H2 hpd hok hx h0 h1 p2 o2=>hN _ _ ⟨pd,_,_,_,rfl,p2,o2,O8 (t:=t) hpd hok hx hw hi40 (by omega)⟩⟩
  rintro σ H2 ⟨pd,o,L',R',rfl,p2,o2,dd⟩
  have dv2:=dv.keepT (cP p1 o2)
  have hM2:=hM1.keep (.old o2)
  have els2:=oR p1 o2 els nls
  have hkc':∀ e,o=some e→e≤2∧KC K a_TwainError (a7 a_NoPart a_NoPlace a_Twice a_Linked a_Apart a_NoDeed a_NoText) e∧c3 a_NoPart a_NoPlace a_Twice e=a7 a_NoPart a_NoPlace a_Twice a_Linked a_Apart a_NoDeed a_NoText e:=fun e he=>⟨dd.le e he,hkc e (dd.le e he)⟩
  refine CG (fun σ H'=>∃ u:V,σ=[some (.ref d),some v,some (.ref ls),some (.int 36),some (.ref M.m),some (.int (0+(i:Nat))),some (.ref pd),some u,some (.str (qj o))]∧Same H2 H'∧(o=none→Den H' u (cU L' R' ks al))) (fun N hN=>?_) ?_
  ·refine ⟨_,rfl,_,rfl,v,pd,o,cU L' R' ks al,rfl,hkc',fun Q' E' h1 h2=>dd.dn v Q' E' H2 (fun _ _ h=>h) dv2 h1 h2,fun ho t u H3 s3 et du=>?_,fun e ho t H3 s3 et=>?_⟩
   ·subst ho
    exact ⟨t,_,rfl,SqT.of et,rfl,_,_,rfl,_,_,rfl,rfl,hN _ _ ⟨u,rfl,s3,fun _=>du⟩⟩
   ·subst ho
    exact ⟨t,_,rfl,SqT.of et,rfl,_,_,rfl,_,_,rfl,rfl,hN _ _ ⟨.non,rfl,s3,fun z=>nomatch z⟩⟩
  rintro σ H3 ⟨u,rfl,s3,du⟩
  have p3:=p2.same s3
  have hM3:=hM2.same s3
  have els3:=s3 _ _ els2
  have dv3:=dv2.same s3
  refine CG (fun σ H'=>σ=[some (.ref d),some v,some (.ref ls),some (.int 36),some (.ref M.m),some (.int (0+(i:Nat))),some (.ref pd),some u,some (.str (qj o))]∧Keep (M.dt :: M.W) H3 H'∧iZ [d,lo] H' { M with b:=M.b+1 } (sel o L L') (sel o R R') ks al) (fun N hN=>?_) ?_
  ·refine ⟨_,rfl,_,rfl,_,rfl,dd.du _ _ H3 (fun _ _ h=>s3 _ _ h) hM3 (fun e he H4 s4=>?_) (fun he H4 k4 m4=>?_)⟩
   ·subst he
    exact ⟨rfl,_,rfl,gR (fun z=>by simp at z) fun _=>hN _ _ ⟨rfl,.of s4,(hM3.same s4).more⟩⟩
   ·subst he
    exact ⟨rfl,_,rfl,gR (fun z=>by simp at z) fun _=>hN _ _ ⟨rfl,k4,m4⟩⟩
  rintro σ H4 ⟨rfl,k4,hM4⟩
  obtain ⟨kt,et3,_⟩:=hM3.t.ex
  have p4:bB d lo H4:=by
   obtain ⟨cs,x,y,z,e1,e2,r⟩:=p3
   exact ⟨cs,x,y,z,k4 _ _ e1 (off4 (by simp)),k4 _ _ e2 (off4 (by simp)),r⟩
  have els4:H4 ls=some (.lst (sp.map mkT)):=k4 _ _ els3 fun z=>by
   rcases List.mem_cons.mp z with z | z
   ·exact eF els3 et3 z
   ·exact nW z
  have kT:∀ (b:Addr) (vs:List V),H3 b=some (.tup vs)→H4 b=some (.tup vs):=fun b vs h=>k4 _ _ h fun z=>by
   rcases List.mem_cons.mp z with z | z
   ·exact iC h et3 (by intro z; cases z) z
   ·obtain ⟨us,hu⟩:=hM3.w.row z
    rw [h] at hu
    cases hu
  have hW:=dd.wk
  have hTl:=hW.tell hf (by omega)
  refine CG (fun σ H'=>∃ v':V,σ=[some (.ref d),some v',some (.ref ls),some (.int 36),some (.ref M.m),some (.int (0+(i:Nat))),some (.ref pd),some u,some (.str (qj o))]∧Same H4 H'∧Den H' v' (cU (sel o L L') (sel o R R') ks al)) (fun N hN=>?_) ?_
  ·refine ⟨_,rfl,rfl,_,rfl,?_⟩
   cases o with
   | some e =>
    refine gR (fun z=>?_) (fun _=>hN _ _ ⟨v,rfl,Same.refl _,dv3.keepT kT⟩)
    exact absurd (of_decide_eq_true z) fun q=>(J4 (o:=some e)).mpr (fun y=>nomatch y) |> fun r=>by rw [decide_eq_true q] at r; cases r
   | none =>
    refine oX ?_
    have du4:Den H4 u (cU L' R' ks al):=(du rfl).keepT kT
    refine ⟨_,rfl,_,rfl,[d,lo],{ M with b:=M.b+1 },L',R',ks,al,rfl,hM4,(by show M.b+1≤500; omega),hTl,fun bk H5 s5 db=>⟨_,5,du4.same s5,db,qI hTl,by omega,_,rfl,xQ ?_⟩⟩
    refine ⟨_,rfl,u,_,rfl,du4.same s5,IK hTl,fun H6 s6=>⟨_,rfl,xQ ?_⟩⟩
    have s46:=s5.trans s6
    have pd2:∀ (b:Addr) (vs:List V),H2 b=some (.tup vs)→H4 b=some (.tup vs):=fun b vs h=>kT _ _ (s3 _ _ h)
    have dv6:Den H6 v (cU L R ks al):=(dv3.keepT kT).same s46
    refine ⟨_,rfl,_,rfl,v,pd,none,cU L' R' ks al,rfl,hkc',fun Q' E' h1 h2=>dd.dn v Q' E' H6 (fun b vs h=>s46 _ _ (pd2 _ _ h)) dv6 h1 h2,fun _ t u2 H7 s7 et du2=>⟨_,rfl,smn 2,fun t2 ht2=>?_⟩,fun e ho=>(nomatch ho)⟩
    have s8:=aq ht2 (.tup [u,.str (qj none)])
    have e8:(upd H7 t2 (.tup [u,.str (qj none)])) t2=some (.tup [u,.str (qj none)]):=ak
    have du8:=(du4.same s46).same (s7.trans s8)
    have s48:=s46.trans (s7.trans s8)
    refine ⟨[cU L' R' ks al,.str (qj none)],6,⟨t,_,rfl,s8 _ _ et,du2.same s8,rfl,trivial⟩,⟨t2,_,rfl,e8,du8,rfl,trivial⟩,cV (by show 2≤100000; omega) fun x hx=>?_,by omega,_,rfl,xQ ⟨_,rfl,hN _ _ ⟨u,rfl,s48,du8⟩⟩⟩
    simp only [List.mem_cons,List.not_mem_nil,or_false] at hx
    rcases hx with rfl | rfl
    ·exact qI hTl
    ·exact dF (n:=0) (dD _) 5
  rintro σ H5 ⟨v',rfl,s5,dv5⟩
  have p5:=p4.same s5
  have hM5:=hM4.same s5
  have els5:=s5 _ _ els4
  refine ⟨_,rfl,ls,rfl,⟨_,SqL.of els5⟩,fun lc hlc=>?_⟩
  have nlo:lc≠lo:=(p5.ne hlc).2
  have nlW:lc ∉ M.W:=fun z=>by
   obtain ⟨us,hu⟩:=hM5.w.row (a:=lc) z
   rw [hlc] at hu
   cases hu
  have hfil:sp.filter (fun z=>decide (z ∉ ((sel o L L')++(sel o R R')).map (·.1)))=sp:=List.filter_eq_self.mpr fun z hz=>decide_eq_true (hW.sd z hz)
  refine gJ (J:=Itl K ls) (l:=lc) sp.length (fun j σ' H'=>∃ v1:Option V,σ'=[some (.ref M.m),v1]∧Same H5 H'∧H' lc=some (.lst (((sp.take j).filter fun z=>decide (z ∉ ((sel o L L')++(sel o R R')).map (·.1))).map mkT))) ⟨none,rfl,aq hlc _,ak⟩ ?_ ?_
  ·rintro σ' H6 ⟨v1,rfl,s6,e6⟩
   rw [List.take_length,hfil] at e6
   exact ⟨⟨_,SqL.of (s6 _ _ els5),by rw [List.length_map]; exact Nat.le_refl _⟩,hE.n _ _ ⟨_,_,_,_,v',lc,{ M with b:=M.b+1 },_,_,_,rfl,p5.same s6,dv5.same s6,hM5.same s6,(by show M.b+1≤60+(i+1); omega),e6,nlo,nlW,hW⟩⟩
  ·rintro j σ' H6 hj ⟨v1,rfl,s6,e6⟩
   have hat:(sp.map mkT)[j]?=some (mkT sp[j]):=by rw [List.getElem?_map,cG hj]; rfl
   refine ⟨⟨_,_,SqL.of (s6 _ _ els5),hat⟩,?_⟩
   rintro N2 hN2 y H7 ⟨rfl,hy⟩
   have ey:y=mkT sp[j]:=Option.some.inj ((hy _ (SqL.of (s6 _ _ els5))).symm.trans hat)
   have htk:=take_one (cG hj)
   generalize sp[j]=z at ey htk
   subst ey
   refine gN ⟨_,rfl,_,rfl,[d,lo],{ M with b:=M.b+1 },_,_,ks,al,z,rfl,hM5.same s6,fun H8 s8=>⟨rfl,_,rfl,?_⟩⟩
   rw [yu]
   have e68:=s8 _ _ e6
   have hfl:=List.length_filter_le (fun z=>decide (z ∉ ((sel o L L')++(sel o R R')).map (·.1))) (sp.take j)
   have htl:(sp.take j).length≤70:=by rw [List.length_take]; omega
   refine gR (fun c=>?_) (fun c=>?_)
   ·refine ⟨_,rfl,_,e68,aJ (by rw [List.length_map]; omega),hN2 _ _ ⟨_,rfl,cX (s6.trans s8) hlc,?_⟩⟩
    rw [ak,htk,List.filter_append,List.filter_cons_of_pos (p:=fun z=>decide (z ∉ ((sel o L L')++(sel o R R')).map (·.1))) c,List.filter_nil]
    exact congrArg (fun q=>some (HO.lst q)) (List.map_append (f:=mkT) (l₂:=[z])).symm
   ·refine hN2 _ _ ⟨_,rfl,s6.trans s8,?_⟩
    rw [htk,List.filter_append,List.filter_cons_of_neg (p:=fun z=>decide (z ∉ ((sel o L L')++(sel o R R')).map (·.1))) c,List.filter_nil,List.append_nil]
    exact e68
 ·rintro σ H1 ⟨v5,v6,v7,v8,v,ls,M,L,R,sp,rfl,_⟩
  exact k H1
end
def Ey (K:PySem.W.Frag):Sp:=fun vs H Q _=>∃ (a:Addr) (ns:List Int),vs=[.ref a]∧SqL K H a (ns.map V.int)∧ns.length≤63∧∀ H',Q (.bl true) H'
theorem Ag {n:Nat} {ks:List Lnk} {k:Lnk} (hk:k∈ks) (h:(aU n ks).Nodup):(qt n k).Nodup:=by
 have h':((ks.map (qt n)).flatten).Nodup:=h
 exact h'.sublist (List.sublist_flatten_of_mem (List.mem_map_of_mem hk))
theorem Nj {x:List Nat} (h:isNm ⟨x.toArray⟩=true):x.length≤1000:=by
 unfold isNm at h
 rw [Bool.and_eq_true,Bool.and_eq_true] at h
 have:=of_decide_eq_true h.1.2
 have e:(⟨x.toArray⟩:Str).length=x.length:=List.size_toArray
 omega
theorem Em {ks:List Lnk} (h:∀ k∈ks,k.1≠[]):ks.length≤(aU 0 ks).length:=by
 unfold aU
 induction ks with
 | nil=>exact Nat.zero_le _
 | cons k ks ih =>
  rw [List.flatMap_cons,List.length_append,List.length_cons]
  have h1:=ih fun k' hk'=>h k' (.tail _ hk')
  have h2:1≤(qt 0 k).length:=List.length_pos_iff.mpr (h k (.head _))
  omega
theorem Om {L R:List Prt} {ks:List Lnk} {al:Nms} (g:Er L R ks al) (hL:L.length≤12) (hR:R.length≤12):Wf ks al:=by
 have n2:=g.nd2
 have n0:=(n2.sublist (List.sublist_append_left _ _)).sublist (List.sublist_append_left _ _)
 have n1:=(n2.sublist (List.sublist_append_left _ _)).sublist (List.sublist_append_right _ _)
 have na:=n2.sublist (List.sublist_append_right _ _)
 have l0:=qQ n0 g.on
 rw [List.length_map] at l0
 have lk:=Em fun k hk=>(g.links k hk).2.2.1
 refine ⟨g.links,g.up,by omega,fun k hk=>?_,g.alone,?_⟩
 ·have h0:k.1.length≤(L.map (·.1)).length:=qQ (Ag (n:=0) hk n0) fun x hx=>g.on x (List.mem_flatMap.mpr ⟨k,hk,hx⟩)
  have h1:k.2.1.length≤(R.map (·.1)).length:=qQ (Ag (n:=1) hk n1) fun x hx=>g.off x (List.mem_flatMap.mpr ⟨k,hk,hx⟩)
  rw [List.length_map] at h0 h1
  have hg:=g.links k hk
  exact ⟨by omega,by omega,Nat.le_trans hg.2.2.2.2.2.2.1.2.2 (by decide),Nat.le_trans hg.2.2.2.2.2.2.2.2.2 (by decide)⟩
 ·have:=qQ na g.al_in
  rw [List.length_map,List.length_append] at this
  omega
section
variable {P:Program} {w:World} {K:PySem.W.Frag} {mg:Str→Option Value} {base:Heap} {a_NoPart a_TwainError a_NoPlace a_Twice a_Linked a_Apart a_NoDeed a_NoText:Addr}
theorem Ef:aQ ["_law_script", "_law_pot_here", "_law_names_here", "_law_book_here"] ["_law_script"] (aC CK):=⟨rfl,rfl,rfl,by decide +kernel,rfl,by decide +kernel,by decide +kernel⟩
theorem Lf {f:Addr} {fd:FuncData} (F:Fun K "law" "law" CK f fd) (C_pot:Cal P w K mg base "_law_pot" 1 ["_law_script"] (Kh K)) (C_names:Cal P w K mg base "_law_names" 2 ["_law_pot_here"] Br) (C_book:Cal P w K mg base "_law_book" 5 ["_law_pot_here", "_law_names_here"] Gp) (C_walked:Cal P w K mg base "_law_walked" 7 ["_law_pot_here", "_law_book_here", "_law_spare", "_law_many"] (vP K a_TwainError (a7 a_NoPart a_NoPlace a_Twice a_Linked a_Apart a_NoDeed a_NoText) (c3 a_NoPart a_NoPlace a_Twice))) (hKC:∀ e,e≤2→KC K a_TwainError (a7 a_NoPart a_NoPlace a_Twice a_Linked a_Apart a_NoDeed a_NoText) e∧(c3 a_NoPart a_NoPlace a_Twice) e=(a7 a_NoPart a_NoPlace a_Twice a_Linked a_Apart a_NoDeed a_NoText) e):jQ P w K mg base CX0 8 f fd ["_law_script"] (Ey K):=by
 refine F.ok Ef (fun vs H Q E hs=>?_) (fun cdv A outer s H vs Q E hr hs=>?_)
 ·obtain ⟨a,ns,rfl,_⟩:=hs
  rfl
 obtain ⟨a,ns,rfl,hS,hl,k⟩:=hs
 refine ⟨_,(au (aH (i:=1) Ef.nd rfl (Or.inl rfl) (aK C_pot hr (by decide) rfl (aj (pv 0) ao)))
  (au (aH (i:=2) Ef.nd rfl (Or.inl rfl) (aK C_names hr (by decide) rfl (aj (pv 1) ao)))
  (au (aH (i:=3) Ef.nd rfl (Or.inl rfl) (aK C_book hr (by decide) rfl (aj (pv 1) (aj (pv 2) ao))))
  (aD (aV (aK C_walked hr (by decide) rfl (aj (pv 1) (aj (pv 3) (aj (pv 2) (aj aA ao)))))))))),?_⟩
 refine ⟨_,rfl,a,ns,rfl,hS,hl,fun d lo H1 s1 p1=>?_⟩
 refine ⟨_,rfl,d,lo,rfl,p1,fun l xs H2 hl2 e2 hrow p2 o2=>?_⟩
 obtain ⟨nld,nlo⟩:=p1.ne hl2
 refine ⟨_,rfl,_,rfl,d,lo,l,xs,rfl,p2,e2,nld,nlo,hrow,fun q L R ks al rest H3 dq gb hL hR hperm e3 p3 o3=>?_⟩
 obtain ⟨hxl,hxn,hxm⟩:=hrow
 have hnd:=(hperm.nodup_iff.mp hxn)
 rw [List.nodup_append] at hnd
 have hlen:=hperm.length_eq
 rw [List.length_append,List.length_map,List.length_append] at hlen
 refine ⟨_,rfl,_,rfl,_,rfl,d,lo,l,.ref q,L,R,ks,al,rest,rfl,p3,dq,e3,nlo,⟨fun p hp=>?_,gb.nd,by omega,by omega,(fun z=>by rw [z,List.length_nil] at hlen; omega),by omega,fun x hx=>Nj (hxm x (hperm.mem_iff.mpr (List.mem_append_right _ hx))),fun x hx z=>hnd.2.2 x z x hx rfl⟩,Om gb hL hR,hKC,fun H4=>k H4⟩
 have hg:=gb.parts p hp
 exact ⟨hg.2.2.2.1.2.1,(by have:=hg.2.2.2.1.2.2; omega),(by have:=hg.2.1; omega),Nj hg.1⟩
end
theorem all_mk {l:PySem.W.OpenLaw} {w:World} {K:PySem.W.Frag} {h:Heap} {mg:Str→Option Value} {fa f37:Addr} (X:K.In h) (G:h.Ns mainGlobals mg) (hfa:mg "law" = some (.ref fa))
  {od37 an37:Option Addr} {sl37:Array (Option Value)} {oc37 kV37 dc37 pm37 cd37 ct37:Value}
  (i1:FnI K "part_of" qb)
  (i2:FnI K "side_of" oJ)
  (i3:FnI K "text_of" nZ)
  (i4:FnI K "moments_of" gH)
  (i5:FnI K "is_word_sign" Mu)
  (i6:FnI K "words_of" nG)
  (i7:FnI K "replaced" iM)
  (i8:FnI K "with_one" jU)
  (i9:FnI K "parts_changed" cQ)
  (i10:FnI K "changed" j4)
  (i11:FnI K "change_done" eX)
  (i12:FnI K "with_word" iU)
  (i13:FnI K "word_done" iQ)
  (i14:FnI K "done" Fl)
  (i15:FnI K "_law_pot" Np)
  (i16:FnI K "_law_next" Fw)
  (i17:FnI K "_law_count" uZ)
  (i18:FnI K "_law_names" lG)
  (i19:FnI K "_law_taken" vZ)
  (i20:FnI K "_law_text" Dr)
  (i21:FnI K "_law_moments" j5)
  (i22:FnI K "_law_sides" uR)
  (i23:FnI K "_law_some" zU)
  (i24:FnI K "_law_stood" mU)
  (i25:FnI K "_law_book" DW)
  (i26:FnI K "_law_model" nO)
  (i27:FnI K "_law_as_book" pA)
  (i28:FnI K "_law_side" Df)
  (i29:FnI K "_law_spans" uw)
  (i30:FnI K "_law_change" oW)
  (i31:FnI K "_law_do" sDo)
  (i32:FnI K "_law_pick" DX)
  (i33:FnI K "_law_deed" Ez)
  (i34:FnI K "_law_tried" vI)
  (i35:FnI K "_law_kinds" qm)
  (i36:FnI K "_law_walked" lK)
  (a37:PySem.W.nsIn K mainGlobals "law" = some (some (.ref f37))) (l37:K.lookup f37=some ⟨oc37,od37,.func (PySem.W.fnOf "law" "law" (gn CK) (dN CK) (aC CK) .none kV37 dc37 pm37 an37 cd37 ct37),sl37⟩) (c37:PySem.W.codeIn K cd37 "law" = true) (k37:PySem.W.keepIn K (.ref f37)=true)
  {t_DOERS:Addr} (p_DOERS:PySem.W.nsIn K mainGlobals "DOERS" = some (some (.ref t_DOERS))) (kt_DOERS:KFT K t_DOERS iJ)
  {a_NoPart a_NoPlace a_TwainError a_Twice a_Apart a_Linked a_NoText a_NoDeed:Addr} (p_NoPart:PySem.W.nsIn K mainGlobals "NoPart" = some (some (.ref a_NoPart))) (p_NoPlace:PySem.W.nsIn K mainGlobals "NoPlace" = some (some (.ref a_NoPlace))) (p_TwainError:PySem.W.nsIn K mainGlobals "TwainError" = some (some (.ref a_TwainError))) (p_Twice:PySem.W.nsIn K mainGlobals "Twice" = some (some (.ref a_Twice))) (p_Apart:PySem.W.nsIn K mainGlobals "Apart" = some (some (.ref a_Apart))) (p_Linked:PySem.W.nsIn K mainGlobals "Linked" = some (some (.ref a_Linked))) (p_NoText:PySem.W.nsIn K mainGlobals "NoText" = some (some (.ref a_NoText))) (p_NoDeed:PySem.W.nsIn K mainGlobals "NoDeed" = some (some (.ref a_NoDeed))) (x_NoPart:PySem.W.excIn K a_NoPart vBm "ValueError.__new__" = true) (x_NoPlace:PySem.W.excIn K a_NoPlace vBm "ValueError.__new__" = true) (x_TwainError:PySem.W.excIn K a_TwainError vBm "ValueError.__new__" = true) (b0k:KB K a_NoPart a_TwainError) (n01k:PySem.W.kin_not K a_NoPart a_NoPlace=true) (n02k:PySem.W.kin_not K a_NoPart a_Twice=true) (n03k:PySem.W.kin_not K a_NoPart a_Linked=true) (n04k:PySem.W.kin_not K a_NoPart a_Apart=true) (n05k:PySem.W.kin_not K a_NoPart a_NoDeed=true) (n06k:PySem.W.kin_not K a_NoPart a_NoText=true) (b1k:KB K a_NoPlace a_TwainError) (n10k:PySem.W.kin_not K a_NoPlace a_NoPart=true) (n12k:PySem.W.kin_not K a_NoPlace a_Twice=true) (n13k:PySem.W.kin_not K a_NoPlace a_Linked=true) (n14k:PySem.W.kin_not K a_NoPlace a_Apart=true) (n15k:PySem.W.kin_not K a_NoPlace a_NoDeed=true) (n16k:PySem.W.kin_not K a_NoPlace a_NoText=true) (b2k:KB K a_Twice a_TwainError) (n20k:PySem.W.kin_not K a_Twice a_NoPart=true) (n21k:PySem.W.kin_not K a_Twice a_NoPlace=true) (n23k:PySem.W.kin_not K a_Twice a_Linked=true) (n24k:PySem.W.kin_not K a_Twice a_Apart=true) (n25k:PySem.W.kin_not K a_Twice a_NoDeed=true) (n26k:PySem.W.kin_not K a_Twice a_NoText=true)
  (z_len:PySem.W.nsIn K mainGlobals "len" = some none) (z_int:PySem.W.nsIn K mainGlobals "int" = some none) (z_range:PySem.W.nsIn K mainGlobals "range" = some none) (z_isinstance:PySem.W.nsIn K mainGlobals "isinstance" = some none) (z_tuple:PySem.W.nsIn K mainGlobals "tuple" = some none) (z_bool:PySem.W.nsIn K mainGlobals "bool" = some none) (z_str:PySem.W.nsIn K mainGlobals "str" = some none) (z_list:PySem.W.nsIn K mainGlobals "list" = some none) (z_sorted:PySem.W.nsIn K mainGlobals "sorted" = some none) (z_min:PySem.W.nsIn K mainGlobals "min" = some none) (z_ValueError:PySem.W.nsIn K mainGlobals "ValueError" = some none) (z_set:PySem.W.nsIn K mainGlobals "set" = some none) (z_all:PySem.W.nsIn K mainGlobals "all" = some none) :
  ∃ fd:FuncData,(∀ (s:Shared) (v:Value),BindsTo s fd ⟨[v],[]⟩ [("_law_script",v)])∧∀ base:Heap,K.In base→base.Ns mainGlobals mg→jQ l.prog w K mg base CX0 8 fa fd ["_law_script"] (Ey K):=by
 have e:=hfa.symm.trans (PySem.W.mg_of X G a37)
 cases e
 have h_part_of:Has K mg "part_of" qb ["book", "name"]:=i1.has X G fun _ _ _ _ _ _ us hl=>len2 us hl fun _ _=>rfl
 have h_side_of:Has K mg "side_of" oJ ["book", "name"]:=i2.has X G fun _ _ _ _ _ _ us hl=>len2 us hl fun _ _=>rfl
 have h_text_of:Has K mg "text_of" nZ ["book", "name"]:=i3.has X G fun _ _ _ _ _ _ us hl=>len2 us hl fun _ _=>rfl
 have h_moments_of:Has K mg "moments_of" gH ["book", "name"]:=i4.has X G fun _ _ _ _ _ _ us hl=>len2 us hl fun _ _=>rfl
 have h_isw:Has K mg "is_word_sign" Mu ["sign"]:=i5.has X G fun _ _ _ _ _ _ us hl=>len1 us hl fun _=>rfl
 have h_words:Has K mg "words_of" nG ["text"]:=i6.has X G fun _ _ _ _ _ _ us hl=>len1 us hl fun _=>rfl
 have h_replaced:Has K mg "replaced" iM ["row", "place", "thing"]:=i7.has X G fun _ _ _ _ _ _ us hl=>JQ us hl fun _ _ _=>rfl
 have h_with_one:Has K mg "with_one" jU ["row", "thing"]:=i8.has X G fun _ _ _ _ _ _ us hl=>len2 us hl fun _ _=>rfl
 have h_parts_changed:Has K mg "parts_changed" cQ ["parts", "part"]:=i9.has X G fun _ _ _ _ _ _ us hl=>len2 us hl fun _ _=>rfl
 have h_changed:Has K mg "changed" j4 ["book", "name", "text", "t"]:=i10.has X G fun _ _ _ _ _ _ us hl=>OJ us hl fun _ _ _ _=>rfl
 have h_change_done:Has K mg "change_done" eX ["book", "deed"]:=i11.has X G fun _ _ _ _ _ _ us hl=>len2 us hl fun _ _=>rfl
 have h_with_word:Has K mg "with_word" iU ["text", "k", "word"]:=i12.has X G fun _ _ _ _ _ _ us hl=>JQ us hl fun _ _ _=>rfl
 have h_word_done:Has K mg "word_done" iQ ["book", "deed"]:=i13.has X G fun _ _ _ _ _ _ us hl=>len2 us hl fun _ _=>rfl
 have h_done:Has K mg "done" Fl ["book", "deed"]:=i14.has X G fun _ _ _ _ _ _ us hl=>len2 us hl fun _ _=>rfl
 have h_pot:Has K mg "_law_pot" Np ["_law_script"]:=i15.has X G fun _ _ _ _ _ _ us hl=>len1 us hl fun _=>rfl
 have h_next:Has K mg "_law_next" Fw ["_law_pot_here", "_law_many"]:=i16.has X G fun _ _ _ _ _ _ us hl=>len2 us hl fun _ _=>rfl
 have h_count:Has K mg "_law_count" uZ ["_law_pot_here", "_law_most"]:=i17.has X G fun _ _ _ _ _ _ us hl=>len2 us hl fun _ _=>rfl
 have h_names:Has K mg "_law_names" lG ["_law_pot_here"]:=i18.has X G fun _ _ _ _ _ _ us hl=>len1 us hl fun _=>rfl
 have h_taken:Has K mg "_law_taken" vZ ["_law_pot_here", "_law_names_here"]:=i19.has X G fun _ _ _ _ _ _ us hl=>len2 us hl fun _ _=>rfl
 have h_text:Has K mg "_law_text" Dr ["_law_pot_here"]:=i20.has X G fun _ _ _ _ _ _ us hl=>len1 us hl fun _=>rfl
 have h_moments:Has K mg "_law_moments" j5 ["_law_pot_here", "_law_many"]:=i21.has X G fun _ _ _ _ _ _ us hl=>len2 us hl fun _ _=>rfl
 have h_sides:Has K mg "_law_sides" uR ["_law_pot_here", "_law_names_here"]:=i22.has X G fun _ _ _ _ _ _ us hl=>len2 us hl fun _ _=>rfl
 have h_some:Has K mg "_law_some" zU ["_law_pot_here", "_law_names_here", "_law_most"]:=i23.has X G fun _ _ _ _ _ _ us hl=>JQ us hl fun _ _ _=>rfl
 have h_stood:Has K mg "_law_stood" mU ["_law_pot_here", "_law_sides_here"]:=i24.has X G fun _ _ _ _ _ _ us hl=>len2 us hl fun _ _=>rfl
 have h_book:Has K mg "_law_book" DW ["_law_pot_here", "_law_names_here"]:=i25.has X G fun _ _ _ _ _ _ us hl=>len2 us hl fun _ _=>rfl
 have h_model:Has K mg "_law_model" nO ["_law_book_here"]:=i26.has X G fun _ _ _ _ _ _ us hl=>len1 us hl fun _=>rfl
 have h_as_book:Has K mg "_law_as_book" pA ["_law_model_here"]:=i27.has X G fun _ _ _ _ _ _ us hl=>len1 us hl fun _=>rfl
 have h_side:Has K mg "_law_side" Df ["_law_model_here", "_law_name"]:=i28.has X G fun _ _ _ _ _ _ us hl=>len2 us hl fun _ _=>rfl
 have h_spans:Has K mg "_law_spans" uw ["_law_text_here"]:=i29.has X G fun _ _ _ _ _ _ us hl=>len1 us hl fun _=>rfl
 have h_change:Has K mg "_law_change" oW ["_law_model_here", "_law_deed_here"]:=i30.has X G fun _ _ _ _ _ _ us hl=>len2 us hl fun _ _=>rfl
 have h_do:Has K mg "_law_do" sDo ["_law_model_here", "_law_deed_here"]:=i31.has X G fun _ _ _ _ _ _ us hl=>len2 us hl fun _ _=>rfl
 have h_pick:Has K mg "_law_pick" DX ["_law_pot_here", "_law_some_here", "_law_others"]:=i32.has X G fun _ _ _ _ _ _ us hl=>JQ us hl fun _ _ _=>rfl
 have h_deed:Has K mg "_law_deed" Ez ["_law_pot_here", "_law_model_here", "_law_spare"]:=i33.has X G fun _ _ _ _ _ _ us hl=>JQ us hl fun _ _ _=>rfl
 have h_tried:Has K mg "_law_tried" vI ["_law_book_here", "_law_deed_here"]:=i34.has X G fun _ _ _ _ _ _ us hl=>len2 us hl fun _ _=>rfl
 have h_kinds:Has K mg "_law_kinds" qm ["_law_thing"]:=i35.has X G fun _ _ _ _ _ _ us hl=>len1 us hl fun _=>rfl
 have h_walked:Has K mg "_law_walked" lK ["_law_pot_here", "_law_book_here", "_law_spare", "_law_many"]:=i36.has X G fun _ _ _ _ _ _ us hl=>OJ us hl fun _ _ _ _=>rfl
 have F37:=Gn (st:=CK) l37 c37 k37
 have m_len:=PySem.W.mg_none_of X G z_len
 have m_int:=PySem.W.mg_none_of X G z_int
 have m_range:=PySem.W.mg_none_of X G z_range
 have m_isinstance:=PySem.W.mg_none_of X G z_isinstance
 have m_tuple:=PySem.W.mg_none_of X G z_tuple
 have m_bool:=PySem.W.mg_none_of X G z_bool
 have m_str:=PySem.W.mg_none_of X G z_str
 have m_list:=PySem.W.mg_none_of X G z_list
 have m_sorted:=PySem.W.mg_none_of X G z_sorted
 have m_min:=PySem.W.mg_none_of X G z_min
 have m_ValueError:=PySem.W.mg_none_of X G z_ValueError
 have m_set:=PySem.W.mg_none_of X G z_set
 have m_all:=PySem.W.mg_none_of X G z_all
 have q_DOERS:=PySem.W.mg_of X G p_DOERS
 have q_NoPart:=PySem.W.mg_of X G p_NoPart
 have q_NoPlace:=PySem.W.mg_of X G p_NoPlace
 have q_TwainError:=PySem.W.mg_of X G p_TwainError
 have q_Twice:=PySem.W.mg_of X G p_Twice
 have q_Apart:=PySem.W.mg_of X G p_Apart
 have q_Linked:=PySem.W.mg_of X G p_Linked
 have q_NoText:=PySem.W.mg_of X G p_NoText
 have q_NoDeed:=PySem.W.mg_of X G p_NoDeed
 have hMK:=mgk X G
 have kc0:KC K a_TwainError (a7 a_NoPart a_NoPlace a_Twice a_Linked a_Apart a_NoDeed a_NoText) 0:=⟨b0k.ek,b0k.un,b0k.ii,b0k.iv,fun i h1 h2=>match i,h1,h2 with | 0,_,h=>absurd rfl h | 1,_,_=>n01k | 2,_,_=>n02k | 3,_,_=>n03k | 4,_,_=>n04k | 5,_,_=>n05k | 6,_,_=>n06k⟩
 have kc1:KC K a_TwainError (a7 a_NoPart a_NoPlace a_Twice a_Linked a_Apart a_NoDeed a_NoText) 1:=⟨b1k.ek,b1k.un,b1k.ii,b1k.iv,fun i h1 h2=>match i,h1,h2 with | 0,_,_=>n10k | 1,_,h=>absurd rfl h | 2,_,_=>n12k | 3,_,_=>n13k | 4,_,_=>n14k | 5,_,_=>n15k | 6,_,_=>n16k⟩
 have kc2:KC K a_TwainError (a7 a_NoPart a_NoPlace a_Twice a_Linked a_Apart a_NoDeed a_NoText) 2:=⟨b2k.ek,b2k.un,b2k.ii,b2k.iv,fun i h1 h2=>match i,h1,h2 with | 0,_,_=>n20k | 1,_,_=>n21k | 2,_,h=>absurd rfl h | 3,_,_=>n23k | 4,_,_=>n24k | 5,_,_=>n25k | 6,_,_=>n26k⟩
 have hKC:∀ e,e≤2→KC K a_TwainError (a7 a_NoPart a_NoPlace a_Twice a_Linked a_Apart a_NoDeed a_NoText) e∧(c3 a_NoPart a_NoPlace a_Twice) e=(a7 a_NoPart a_NoPlace a_Twice a_Linked a_Apart a_NoDeed a_NoText) e:=fun e h=>match e,h with | 0,_=>⟨kc0,rfl⟩ | 1,_=>⟨kc1,rfl⟩ | 2,_=>⟨kc2,rfl⟩
 refine ⟨PySem.W.fnOf "law" "law" (gn CK) (dN CK) (aC CK) .none kV37 dc37 pm37 an37 cd37 ct37,fun s v=>.of_eq rfl,fun base _ _=>?_⟩
 have C_pot:=Og (P:=l.prog) (w:=w) (base:=base) h_pot
 have C_next:=K5 (P:=l.prog) (w:=w) (base:=base) h_next
 have C_count:=Jh (P:=l.prog) (w:=w) (base:=base) h_count C_next m_int
 have C_taken:=Ji (P:=l.prog) (w:=w) (base:=base) h_taken C_next m_len
 have C_moments:=yw (P:=l.prog) (w:=w) (base:=base) h_moments C_next m_int m_range m_tuple
 have C_some:=JZ (P:=l.prog) (w:=w) (base:=base) h_some C_count C_taken m_min m_len m_tuple m_sorted m_range
 have C_text:=Ld (P:=l.prog) (w:=w) (base:=base) h_text C_next m_range
 have C_sides:=Ik (P:=l.prog) (w:=w) (base:=base) h_sides C_count C_moments C_text C_taken m_range m_tuple
 have C_names:=Hw (P:=l.prog) (w:=w) (base:=base) h_names C_next m_range
 have C_stood:=HY (P:=l.prog) (w:=w) (base:=base) h_stood C_count C_some C_moments C_next m_range m_tuple m_sorted
 have C_book:=M4 (P:=l.prog) (w:=w) (base:=base) h_book C_sides C_stood
 have C_part_of:=yc (P:=l.prog) (w:=w) (base:=base) h_part_of q_NoPart x_NoPart
 have C_side_of:=yx (P:=l.prog) (w:=w) (base:=base) h_side_of C_part_of
 have C_text_of:=Bb (P:=l.prog) (w:=w) (base:=base) h_text_of C_part_of
 have C_moments_of:=qP (P:=l.prog) (w:=w) (base:=base) h_moments_of C_part_of
 have C_replaced:=xO (P:=l.prog) (w:=w) (base:=base) h_replaced
 have C_isw:=Ot (P:=l.prog) (w:=w) (base:=base) h_isw
 have C_words:=HB (P:=l.prog) (w:=w) (base:=base) h_words C_isw m_tuple
 have C_with_one:=wY (P:=l.prog) (w:=w) (base:=base) h_with_one m_tuple m_sorted m_set
 have C_parts_changed:=lD (P:=l.prog) (w:=w) (base:=base) h_parts_changed m_tuple
 have C_changed:=Bc (P:=l.prog) (w:=w) (base:=base) h_changed C_side_of C_with_one C_moments_of C_replaced C_parts_changed
 have C_change_done:=pU (P:=l.prog) (w:=w) (base:=base) h_change_done C_changed (a_NoPlace:=a_NoPlace) (a_Twice:=a_Twice)
 have C_with_word:=tH (P:=l.prog) (w:=w) (base:=base) h_with_word C_words m_len
 have C_word_done:=sO (P:=l.prog) (w:=w) (base:=base) h_word_done q_NoPlace x_NoPlace C_text_of C_words C_changed C_with_word m_len (a_Twice:=a_Twice)
 have C_done:=Kz (P:=l.prog) (w:=w) (base:=base) h_done q_DOERS kt_DOERS hMK C_change_done C_word_done
 have C_side:=M7 (P:=l.prog) (w:=w) (base:=base) h_side
 have C_spans:=Jc (P:=l.prog) (w:=w) (base:=base) h_spans m_range m_len
 have C_change:=CZ (P:=l.prog) (w:=w) (base:=base) h_change C_side C_spans m_len
 obtain ⟨f_change,qf_change,Fn_change⟩:=(Cal.to1 C_change).fn
 have C_do:=QH (P:=l.prog) (w:=w) (base:=base) h_do qf_change Fn_change
 have C_tried:=HF (P:=l.prog) (w:=w) (base:=base) h_tried q_TwainError x_TwainError q_Twice q_NoPlace q_NoPart q_Apart q_Linked q_NoText q_NoDeed C_done m_isinstance m_ValueError
 have C_kinds:=yZ (P:=l.prog) (w:=w) (base:=base) h_kinds m_isinstance m_tuple m_all m_bool m_int m_str 6
 have C_pick:=MK (P:=l.prog) (w:=w) (base:=base) h_pick C_next m_len
 have C_deed:=Mt (P:=l.prog) (w:=w) (base:=base) h_deed C_moments C_next C_pick C_text C_spans m_len
 have C_model:=Jw (P:=l.prog) (w:=w) (base:=base) h_model m_list
 have C_as_book:=yh (P:=l.prog) (w:=w) (base:=base) h_as_book m_tuple m_sorted m_set
 have C_walked:=Es (P:=l.prog) (w:=w) (base:=base) h_walked C_model C_deed C_tried C_do C_kinds C_as_book C_side m_range
 exact Lf F37 C_pot C_names C_book C_walked hKC
theorem walk {l:PySem.W.OpenLaw} {q:Program} {loose:List Str} {XP:(Str→Option Value)→Heap→Prop} {YP:World→Heap→Prop} {d:DefRec} {K:Params→PySem.W.Frag} (hn:l.most=some 63) (hdf:d.params.defaults=[])
  (hY:∀ (w:World) (h:Heap),YP w h→(K w.params).In h)
  (F:∀ (w:World) (mg:Str→Option Value) (fa:Addr) (h:Heap),(K w.params).In h→h.Ns mainGlobals mg→mg d.name=some (.ref fa) →
   ∃ fd:FuncData,(∀ (s:Shared) (u:Value),BindsTo s fd ⟨[u],[]⟩ [("_law_script",u)])∧∀ base:Heap,(K w.params).In base→base.Ns mainGlobals mg→jQ l.prog w (K w.params) mg base CX0 8 fa fd ["_law_script"] (Ey (K w.params))) :
  PySem.W.WalkO q loose XP YP l.row.toRowW d [] (fun f vs=>PySem.call f vs) :=
 L2.Jk (n:=63) (k:=8) (x:="_law_script") (CX:=fun _=>CX0) (sp:=fun w=>Ey (K w.params)) hn (by decide) hdf ⟨rfl,by decide,by decide⟩ hY F (fun _ _ a ns hl _ hS=>⟨a,ns,rfl,hS,hl,fun _=>rfl⟩) fun _ _ _ _ _ z=>z
end Mine
def PySem.W.Fast.tw16633848702327464951:Unit:=()
def PySem.W.Fast.tw16547624831812714596:Unit:=()
def PySem.W.Fast.tw17720601226580844631:Unit:=()
def PySem.W.Fast.tw404996163434635450:Unit:=()
def PySem.W.Fast.tw8313204994794071113:Unit:=()
def PySem.W.Fast.tw3187279684420700365:Unit:=()
def PySem.W.Fast.tw300266302530619335:Unit:=()
def PySem.W.Fast.tw6506136703370412902:Unit:=()
def PySem.W.Fast.tw1266673503302579680:Unit:=()
def PySem.W.Fast.tw6855574609693930582:Unit:=()
def PySem.W.Fast.tw13400939228256941619:Unit:=()
def PySem.W.Fast.tw1433127248268809270:Unit:=()
def PySem.W.Fast.tw15112785757440783373:Unit:=()
def PySem.W.Fast.tw7719705750688322197:Unit:=()
def PySem.W.Fast.tw7552583358559697089:Unit:=()
def PySem.W.Fast.tw9521482625282310922:Unit:=()
def PySem.W.Fast.tw17654070930285555036:Unit:=()
def PySem.W.Fast.tw1588566190960788726:Unit:=()
def PySem.W.Fast.tw7497619207087402499:Unit:=()
def PySem.W.Fast.tw13494232376861591706:Unit:=()
def PySem.W.Fast.tw1009764225876516400:Unit:=()
def PySem.W.Fast.tw4495186486120518380:Unit:=()
def PySem.W.Fast.tw3780874921637929546:Unit:=()
def PySem.W.Fast.tw6618855294208017631:Unit:=()
def PySem.W.Fast.tw18424398860576248456:Unit:=()
def PySem.W.Fast.tw9867057560461918793:Unit:=()
def PySem.W.Fast.tw5102826110218901707:Unit:=()
def PySem.W.Fast.tw11609140935812811599:Unit:=()
def PySem.W.Fast.tw9325599147752368375:Unit:=()
def PySem.W.Fast.tw1303524286618755900:Unit:=()
def PySem.W.Fast.tw2006984805969834410:Unit:=()
def PySem.W.Fast.tw18134384810755902597:Unit:=()
def PySem.W.Fast.tw516327566199594466:Unit:=()
def PySem.W.Fast.tw9525598520768707824:Unit:=()
def PySem.W.Fast.tw15842555730540798683:Unit:=()
def PySem.W.Fast.tw11945642047175144741:Unit:=()
def PySem.W.Fast.tw1700444800535875716:Unit:=()
def PySem.W.Fast.tw16388174252413946459:Unit:=()
def PySem.W.Fast.tw13307502225070761650:Unit:=()
def PySem.W.Fast.tw17591270005428571082:Unit:=()
def PySem.W.Fast.tw7288848003912786345:Unit:=()
def PySem.W.Fast.tw3533931229131054278:Unit:=()
def PySem.W.Fast.tw7272426644006497194:Unit:=()
def PySem.W.Fast.tw1094301817142331807:Unit:=()
def PySem.W.Fast.tw19184494368533837:Unit:=()
def PySem.W.Fast.tw15393663143975054506:Unit:=()
def PySem.W.Fast.tw4079180259529855127:Unit:=()
def PySem.W.Fast.tw1443985320126783897:Unit:=()
def PySem.W.Fast.tw10478751851037017648:Unit:=()
def PySem.W.Fast.tw2977470485029350807:Unit:=()
def PySem.W.Fast.tw8867126497876350868:Unit:=()
def PySem.W.Fast.tw9149342850285581252:Unit:=()
def PySem.W.Fast.tw12517892667470527937:Unit:=()
def PySem.W.Fast.tw10281625992392345584:Unit:=()
def PySem.W.Fast.tw3601473297136374740:Unit:=()
def PySem.W.Fast.tw14748092731530835441:Unit:=()
def PySem.W.Fast.tw1727309866306098133:Unit:=()
def PySem.W.Fast.tw9201692664265766688:Unit:=()
def PySem.W.Fast.tw15559338085369700863:Unit:=()
def PySem.W.Fast.tw8599123484417040996:Unit:=()
def PySem.W.Fast.tw7074141420377500662:Unit:=()
def PySem.W.Fast.tw5227546519863302400:Unit:=()
def PySem.W.Fast.tw7093177624415823134:Unit:=()
def PySem.W.Fast.tw2877091048103916810:Unit:=()
def PySem.W.Fast.tw3000650344228895077:Unit:=()
def PySem.W.Fast.tw295214046578105445:Unit:=()
def PySem.W.Fast.tw234194255534266597:Unit:=()
def PySem.W.Fast.tw10627579096511758044:Unit:=()
def PySem.W.Fast.tw12269029744674594440:Unit:=()
def PySem.W.Fast.tw18381276708281303062:Unit:=()
def PySem.W.Fast.tw11874885554148702553:Unit:=()
def PySem.W.Fast.tw5739087621405138416:Unit:=()
def PySem.W.Fast.tw7894315493473661522:Unit:=()
def PySem.W.Fast.tw10486768705797612436:Unit:=()
def PySem.W.Fast.tw1825997804292775495:Unit:=()
def PySem.W.Fast.tw8662733227091970987:Unit:=()
def PySem.W.Fast.tw12494355701149604197:Unit:=()
def PySem.W.Fast.tw17051834195835526887:Unit:=()
def PySem.W.Fast.tw12583516328527494979:Unit:=()
def PySem.W.Fast.tw5556222923639142288:Unit:=()
def PySem.W.Fast.tw4008656906988366133:Unit:=()
def PySem.W.Fast.tw9127572029972549775:Unit:=()
def PySem.W.Fast.tw4688557545801617580:Unit:=()
def PySem.W.Fast.tw2315583099662879648:Unit:=()
def PySem.W.Fast.tw16370202612187082134:Unit:=()
def PySem.W.Fast.tw17417091290451960142:Unit:=()
def PySem.W.Fast.tw16261808903248382539:Unit:=()
def PySem.W.Fast.tw8920269368577111324:Unit:=()
def PySem.W.Fast.tw8741384553747676936:Unit:=()
def PySem.W.Fast.tw11341642295930689001:Unit:=()
def PySem.W.Fast.tw13824831071424464465:Unit:=()
def PySem.W.Fast.tw1008595588165162779:Unit:=()
def PySem.W.Fast.tw323094894432429104:Unit:=()
def PySem.W.Fast.tw13575348747972914568:Unit:=()
def PySem.W.Fast.tw10757228506376839670:Unit:=()
def PySem.W.Fast.tw2956207581645464946:Unit:=()
def PySem.W.Fast.tw1063786313119617403:Unit:=()
def PySem.W.Fast.tw3024422481149908878:Unit:=()
def PySem.W.Fast.tw18178042434539210902:Unit:=()
def PySem.W.Fast.tw11777398203201306617:Unit:=()
def PySem.W.Fast.tw7045948808401925886:Unit:=()
def PySem.W.Fast.tw12784986382462694584:Unit:=()
def PySem.W.Fast.tw2369607984406666017:Unit:=()
def PySem.W.Fast.tw11682785901051779712:Unit:=()
def PySem.W.Fast.tw13300231102944915452:Unit:=()
def PySem.W.Fast.tw8283986717476322537:Unit:=()
def PySem.W.Fast.tw17861041647952271935:Unit:=()
def PySem.W.Fast.tw1716385956460658615:Unit:=()
def PySem.W.Fast.tw8698840149342010856:Unit:=()
def PySem.W.Fast.tw10473314794108683069:Unit:=()
def PySem.W.Fast.tw8012016582926608264:Unit:=()
def PySem.W.Fast.tw6092867564675280101:Unit:=()
def PySem.W.Fast.tw11947201483563553657:Unit:=()
def PySem.W.Fast.tw18151492740792803519:Unit:=()
def PySem.W.Fast.tw10305906179004266691:Unit:=()
def PySem.W.Fast.tw1331882415600405859:Unit:=()
def PySem.W.Fast.tw564173237145120496:Unit:=()
def PySem.W.Fast.tw89624599809173145:Unit:=()
def PySem.W.Fast.tw2711092045793498866:Unit:=()
def PySem.W.Fast.tw9240415712078061019:Unit:=()
def PySem.W.Fast.tw6603736773031812416:Unit:=()
def PySem.W.Fast.tw14258432672600148377:Unit:=()
def PySem.W.Fast.tw11430633606692277208:Unit:=()
def PySem.W.Fast.tw18430313118434253742:Unit:=()
def PySem.W.Fast.tw10994566328769965091:Unit:=()
def PySem.W.Fast.tw3977661115949224990:Unit:=()
def PySem.W.Fast.tw1754493603502789658:Unit:=()
def PySem.W.Fast.tw7945296040727234321:Unit:=()
def PySem.W.Fast.tw1314764221818916666:Unit:=()
def PySem.W.Fast.tw7650095349514667400:Unit:=()
def PySem.W.Fast.tw8252833978950788906:Unit:=()
def PySem.W.Fast.tw1327817906551178106:Unit:=()
def PySem.W.Fast.tw17752540618795214713:Unit:=()
def PySem.W.Fast.tw8036674493163259352:Unit:=()
def PySem.W.Fast.tw13242332483142618811:Unit:=()
def PySem.W.Fast.tw11550646674285097474:Unit:=()
def PySem.W.Fast.tw17803418794927099521:Unit:=()
def PySem.W.Fast.tw17450181197552963537:Unit:=()
open PySem PySem.W PyProof.Rows
set_option maxRecDepth 100000 in
set_option maxHeartbeats 0 in
theorem PySem.Challenge.cw_twainkeep_k22_texts_changed_holds : PySem.Challenge.rw_twainkeep_k22_texts_changed.Holds := by
 w_on; o_law; k_head; (case hw=>w_witness2)
 k_fill
 refine Mine.walk (l:=PySem.Challenge.rw_twainkeep_k22_texts_changed) rfl rfl (fun w h Y=>PySem.W.kIn_of Y) ?F
 case F =>
  intro w mg fa h KX G hmg
  refine' Mine.all_mk KX G hmg ?i1 ?i2 ?i3 ?i4 ?i5 ?i6 ?i7 ?i8 ?i9 ?i10 ?i11 ?i12 ?i13 ?i14 ?i15 ?i16 ?i17 ?i18 ?i19 ?i20 ?i21 ?i22 ?i23 ?i24 ?i25 ?i26 ?i27 ?i28 ?i29 ?i30 ?i31 ?i32 ?i33 ?i34 ?i35 ?i36 ?a37 ?l37 ?c37 ?k37 ?p_DOERS ?kt_DOERS ?p_NoPart ?p_NoPlace ?p_TwainError ?p_Twice ?p_Apart ?p_Linked ?p_NoText ?p_NoDeed ?x_NoPart ?x_NoPlace ?x_TwainError ?b0k ?n01k ?n02k ?n03k ?n04k ?n05k ?n06k ?b1k ?n10k ?n12k ?n13k ?n14k ?n15k ?n16k ?b2k ?n20k ?n21k ?n23k ?n24k ?n25k ?n26k ?z_len ?z_int ?z_range ?z_isinstance ?z_tuple ?z_bool ?z_str ?z_list ?z_sorted ?z_min ?z_ValueError ?z_set ?z_all
  case i1 | i2 | i3 | i4 | i5 | i6 | i7 | i8 | i9 | i10 | i11 | i12 | i13 | i14 | i15 | i16 | i17 | i18 | i19 | i20 | i21 | i22 | i23 | i24 | i25 | i26 | i27 | i28 | i29 | i30 | i31 | i32 | i33 | i34 | i35 | i36=>refine' L2.fni ?a ?l ?c ?k; (case a=>k_is); (case l=>k_is); (case c=>k_is); (case k=>k_is)
  case a37 | l37 | c37 | k37 | p_DOERS | p_NoPart | p_NoPlace | p_TwainError | p_Twice | p_Apart | p_Linked | p_NoText | p_NoDeed | z_len | z_int | z_range | z_isinstance | z_tuple | z_bool | z_str | z_list | z_sorted | z_min | z_ValueError | z_set | z_all=>k_is
  case kt_DOERS=>(unfold L2.KFT; kernel_rfl)
  case x_NoPart | x_NoPlace | x_TwainError=>first | k_exc | k_is
  case b0k | b1k | b2k=>exact ⟨⟨by k_is,by k_is,by k_is,by k_is,by k_is,by k_is⟩,by k_is,by k_is,by k_is⟩
  case n01k | n02k | n03k | n04k | n05k | n06k | n10k | n12k | n13k | n14k | n15k | n16k | n20k | n21k | n23k | n24k | n25k | n26k=>exact L2.wI (by decide) (by k_is) (by k_is) (by k_is)
