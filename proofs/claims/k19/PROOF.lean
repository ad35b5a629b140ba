import PyProof.Rows.All
import Wide.All
import OpenK.AllK
import Wide.FinOn
import Lean
import PyProof.EqAt
import PyProof.EqKinds
import PyProof.TupleCall
import PyProof.ZipIter
import PyProof.TupleIter
import PyProof.WalksMore
import KE.KWords
import PyProof.MinMaxWalk
import PyProof.SeqI3
import PyProof.MaxThree
import PyProof.AttrMissHeap
import PyProof.DictList
import PyProof.DictIter
import KE.KDictOf
import KE.KDictList
import PyProof.Rows.CallKwBuiltin
import PyProof.Rows.Range3
import PyProof.Rows.StrNews2
import PyProof.StrLawsIdx
import PyProof.StrBlockI
import KE.KRevSl
import PyProof.AutoListH
import PyProof.DictWalks
import PyProof.Draws
import PyProof.EnumMake
import PyProof.NeKinds
import PyProof.Rows.SetFrom
import KE.KSortTup
import PyProof.StrBlock2
import PyProof.DictItems
import KE.KPairComp
import PyProof.Rows.SumAny
import PyProof.ListStr
import PyProof.DictValues
import KE.KItemsList
import PySem.SetOps
import PyProof.TupleKey
import PyProof.SetKind
import PyProof.IsRules
import PyProof.DictKinds
import PyProof.SetRoads
import PyProof.MeetsSeq2
import OpenK.KRaise
import PyProof.StationsW
import PyProof.ExcClass2
import OpenK.KOwn
import PyProof.Rows.FStr
import PyProof.NsDelKeeps
import PyProof.RulesAs
import KE.KIsNot
import PyProof.ExcArgsOwn
import PyProof.ExcAttrAll.ValueError
import KE.KLam
import PyProof.ListRange
import PyProof.TupleOfSeq
import PyProof.DictUpdate
import PySem.Challenge.RW_twainkeep_k19_put_and_moved
set_option Elab.async false
set_option linter.all false
set_option maxRecDepth 100000
namespace L2
open PySem PySem.Spec PyProof.Rows
abbrev Key:=Sum Int Str
def keyIs:Key→Value→Bool
  | .inl k,v=>Value.isInt k v
  | .inr x,v=>Value.isStrOf x v
def keyH (w:World):Key→Int
  | .inl k=>hashInt k
  | .inr x=>hashStr w x
theorem keyIs_shape:∀ {k:Key} {v:Value},keyIs k v=true→(∃ i t,k=Sum.inl i∧v=Value.int i t)∨(∃ x t,k=Sum.inr x∧v=Value.str x t)
  | .inl i,v,h=>by
    obtain ⟨t,e⟩:=Value.isInt_shape (k:=i) (v:=v) h
    exact .inl ⟨i,t,rfl,e⟩
  | .inr x,v,h=>by
    obtain ⟨t,e⟩:=Value.isStrOf_shape (x:=x) (v:=v) h
    exact .inr ⟨x,t,rfl,e⟩
theorem keyIs_int (i:Int) (t:Tok):keyIs (.inl i) (.int i t)=true:=by simp [keyIs,Value.isInt]
theorem keyIs_str (x:Str) (t:Tok):keyIs (.inr x) (.str x t)=true:=by simp [keyIs,Value.isStrOf]
theorem key_ll (a b:Int):decide ((Sum.inl a:Key)=Sum.inl b)=(a == b):=by
  by_cases e:a=b
  · subst e; simp
  · have h:¬ (Sum.inl a:Key)=Sum.inl b:=fun q=>e (Sum.inl.inj q)
    rw [decide_eq_false h]
    exact (beq_eq_false_iff_ne.mpr e).symm
theorem key_rr (a b:Str):decide ((Sum.inr a:Key)=Sum.inr b)=decide (a=b):=by
  by_cases e:a=b
  · subst e; simp
  · have h:¬ (Sum.inr a:Key)=Sum.inr b:=fun q=>e (Sum.inr.inj q)
    rw [decide_eq_false h,decide_eq_false e]
theorem key_lr (a:Int) (b:Str):decide ((Sum.inl a:Key)=Sum.inr b)=false:=decide_eq_false (fun q=>nomatch q)
theorem key_rl (a:Str) (b:Int):decide ((Sum.inr a:Key)=Sum.inl b)=false:=decide_eq_false (fun q=>nomatch q)
def mixKind (prog:Program) (w:World):PySem.KeyKind prog w Key where
  is:=keyIs
  hash:=keyH w
  inj:=fun v a b ha hb=>by
    rcases keyIs_shape ha with ⟨i,t,rfl,rfl⟩ | ⟨x,t,rfl,rfl⟩
    · rcases keyIs_shape hb with ⟨j,u,rfl,e⟩ | ⟨y,u,rfl,e⟩
      · injection e with e1 _; rw [e1]
      · exact nomatch e
    · rcases keyIs_shape hb with ⟨j,u,rfl,e⟩ | ⟨y,u,rfl,e⟩
      · exact nomatch e
      · injection e with e1 _; rw [e1]
  byValue:=fun k v h=>by
    rcases keyIs_shape h with ⟨i,t,rfl,rfl⟩ | ⟨x,t,rfl,rfl⟩ <;> rfl
  pyHash:=fun hv h=>by
    rcases keyIs_shape hv with ⟨i,t,rfl,rfl⟩ | ⟨x,t,rfl,rfl⟩
    · exact wpAny_pyHash_int h
    · exact wpAny_pyHash_str h
  eqBool:=fun hu hv h=>by
    rcases keyIs_shape hu with ⟨i,t,rfl,rfl⟩ | ⟨x,t,rfl,rfl⟩
    · rcases keyIs_shape hv with ⟨j,u,rfl,rfl⟩ | ⟨y,u,rfl,rfl⟩
      · rw [key_ll] at h; exact wpAny_eqBool_int h
      · rw [key_lr] at h; exact SeqAt.EqAt.int_str i t y u _ _ _ _ h
    · rcases keyIs_shape hv with ⟨j,u,rfl,rfl⟩ | ⟨y,u,rfl,rfl⟩
      · rw [key_rl] at h; exact SeqAt.EqAt.str_int x t j u _ _ _ _ h
      · rw [key_rr] at h; exact wpAny_eqBool_str h
  «strs»:=fun k x t v h=>by
    rcases keyIs_shape h with ⟨i,u,rfl,e⟩ | ⟨y,u,rfl,e⟩
    · exact nomatch e
    · injection e with e1 _
      subst e1
      cases v <;> rfl
theorem mixKind_int (prog:Program) (w:World) (i:Int) (t:Tok):(mixKind prog w).is (.inl i) (.int i t)=true:=keyIs_int i t
theorem mixKind_str (prog:Program) (w:World) (x:Str) (t:Tok):(mixKind prog w).is (.inr x) (.str x t)=true:=keyIs_str x t
end L2
namespace L2
open PySem PySem.Spec PyProof.Rows
inductive V where
  | non | bl (b:Bool) | int (i:Int) | str (x:Str) | byt (b:Array UInt8) | flt (b:UInt64) | ref (a:Addr) | ty (n:String)
  deriving DecidableEq
def RelV:V→Value→Prop
  | .non,u=>u=Value.none
  | .bl b,u=>u=Value.bool b
  | .int i,u=>∃ t,u=Value.int i t
  | .str x,u=>∃ t,u=Value.str x t
  | .byt b,u=>∃ t,u=Value.bytes b t
  | .flt b,u=>∃ t,u=Value.float b t
  | .ref a,u=>u=Value.ref a
  | .ty n,u=>u=Value.type n
abbrev Vals:List V→List Value→Prop:=Paired RelV
theorem Vals.length {xs:List V} {us:List Value} (r:Vals xs us):xs.length=us.length:=Paired.length r
theorem Vals.get:∀ {xs:List V} {us:List Value} {i:Nat} {x:V},Vals xs us→xs[i]?=some x→∃ u,us[i]?=some u∧RelV x u
  | _,_,_,_,.nil,e=>by simp at e
  | _,_,0,_,.cons r _,e=>by simp at e; subst e; exact ⟨_,rfl,r⟩
  | _,_,i+1,x,.cons _ t,e=>by
    obtain ⟨u,h1,h2⟩:=Vals.get (i:=i) (x:=x) t (by simpa using e)
    exact ⟨u,by simpa using h1,h2⟩
theorem Vals.set {x:V} {u:Value} (r:RelV x u):∀ {xs:List V} {us:List Value} (i:Nat),Vals xs us→Vals (xs.set i x) (us.set i u)
  | _,_,_,.nil=>.nil
  | _,_,0,.cons _ t=>.cons r t
  | _,_,i+1,.cons q t=>.cons q (Vals.set r i t)
theorem Vals.append:∀ {xs ys:List V} {us ws:List Value},Vals xs us→Vals ys ws→Vals (xs++ys) (us++ws)
  | _,_,_,_,.nil,s=>s
  | _,_,_,_,.cons r t,s=>.cons r (Vals.append t s)
theorem Vals.take:∀ {xs:List V} {us:List Value} (n:Nat),Vals xs us→Vals (xs.take n) (us.take n)
  | _,_,0,_=>.nil
  | _,_,_+1,.nil=>.nil
  | _,_,n+1,.cons r t=>.cons r (Vals.take n t)
theorem Vals.drop:∀ {xs:List V} {us:List Value} (n:Nat),Vals xs us→Vals (xs.drop n) (us.drop n)
  | _,_,0,r=>r
  | _,_,_+1,.nil=>.nil
  | _,_,n+1,.cons _ t=>Vals.drop n t
def RelO:Option V→Option Value→Prop
  | some v,some u=>RelV v u
  | none,none=>True
  | _,_=>False
def KV {κ:Type}:List (κ × V)→List (κ × Value)→Prop:=Paired fun (p:κ × V) (q:κ × Value)=>p.1=q.1∧RelV p.2 q.2
def kV:Key→V
  | .inl i=>.int i
  | .inr x=>.str x
inductive HO where
  | lst (xs:List V)
  | tup (xs:List V)
  | dK (kvs:List (Key × V)) | dT (kvs:List (List Key × V))
  | set (S:Int→Bool) (n:Nat)
  | ins (C dx:Addr) (fs:List (Str × V))
  | own (x:Addr)
  | xd (fs:List (Str × V))
  | met (f x:Addr)
  | rng (lo hi:Int)
  | frz (o:Obj) (u:HO)
  | tbl (ps:Array Value)
  | ext (φ:Heap→Prop)
abbrev Hp:=Addr→Option HO
def upd (H:Hp) (a:Addr) (o:HO):Hp:=fun b=>if b=a then some o else H b
theorem upd_same {H:Hp} {a:Addr} {o:HO}:upd H a o a=some o:=by unfold upd; rw [if_pos rfl]
theorem upd_ne {H:Hp} {a b:Addr} {o:HO} (h:b≠a):upd H a o b=H b:=by unfold upd; rw [if_neg h]
theorem upd_upd {H:Hp} {a:Addr} {o u:HO}:upd (upd H a o) a u=upd H a u:=by
  funext b; unfold upd; split <;> rfl
theorem ne_of {H:Hp} {a b:Addr} {o u:HO} (h:H a=some o) (h':H b=some u) (d:o≠u):a≠b:=by
  intro e; subst e; rw [h] at h'; exact d (Option.some.inj h')
theorem ne_of_none {H:Hp} {a b:Addr} {o:HO} (h:H a=some o) (h':H b=none):a≠b:=by
  intro e; subst e; rw [h] at h'; cases h'
section
variable (P:Program) (w:World)
def ObjOk (H:Hp) (h:Heap) (a:Addr):HO→Prop
  | .lst xs=>xs.length≤sizeLine∧∃ (its:List Value) (n:Nat),Vals xs its∧h.get? a=some { cls:=.type "list",data:=.seq its.toArray n }
  | .tup xs=>xs.length≤sizeLine∧∃ its:List Value,Vals xs its∧IsTup h a its.toArray
  | .dK kvs=>kvs.length≤sizeLine∧(a == sysModules)=false∧∃ vs,KV kvs vs∧h.DictOf (mixKind P w) a vs
  | .dT kvs=>kvs.length≤sizeLine∧(a == sysModules)=false∧∃ xs:List (List Key × Addr × Value),
      Paired (fun (p:List Key × V) (q:List Key × Addr × Value)=>p.1=q.1∧H q.2.1=some (.tup (p.1.map kV))∧RelV p.2 q.2.2) kvs xs ∧
      ∃ o es ep,h.get? a=some o∧o.ExactDict∧o.data=.dict es ep∧es.toList=xs.map (entryOfKey (tupleKind (mixKind P w)))∧(xs.map (·.1)).Nodup
  | .set S n=>h.SetOf (intKind P w) a S n
  | .ins C dx fs=>H dx=some (.own a)∧fs.length≤1000∧dx≠a∧h.get? a=some (PySem.W.instObj C dx) ∧
      ∃ mA,h.Ns1 dx mA∧(∀ f,RelO (fs.lookup f) (mA f))∧PySem.Within mA (fs.map (·.1))
  | .own _=>∃ o,h.get? a=some o
  | .xd fs=>∃ mA,h.Ns1 a mA∧∀ f,RelO (fs.lookup f) (mA f)
  | .rng lo hi=>∃ t u v,h.get? a=some { cls:=.type "range",data:=.fields #[.int lo t,.int hi u,.int 1 v] }
  | .frz o u=>h.get? a=some o∧ObjOk H h a u
  | .tbl ps=>h.get? a=some { cls:=.none,data:=.fields ps }
  | .met f x=>h.get? a=some (PySem.W.methodObj (.ref f) (.ref x))
  | .ext φ=>φ h∧(∃ o,h.get? a=some o)∧∀ h1 h2:Heap,φ h1→(∀ o,h1.get? a=some o→h2.get? a=some o)→φ h2
def HOk (H:Hp) (h:Heap):Prop:=∀ a o,H a=some o→ObjOk P w H h a o
end
section
variable {P:Program} {w:World} {H H':Hp} {h h':Heap} {a:Addr} {o:HO}
theorem ObjOk.lt (x:ObjOk P w H h a o):a < h.objs.size:=by
  cases o with
  | lst xs=>obtain ⟨_,_,_,_,e⟩:=x; exact Heap.lt_size e
  | tup xs=>obtain ⟨_,_,_,p⟩:=x; exact p.lt
  | dK kvs=>obtain ⟨_,_,_,_,o,_,_,e,_⟩:=x; exact Heap.lt_size e
  | dT kvs=>obtain ⟨_,_,_,_,o,_,_,e,_⟩:=x; exact Heap.lt_size e
  | set S n=>obtain ⟨o,_,_,_,e,_⟩:=x; exact Heap.lt_size e
  | ins C dx fs=>obtain ⟨_,_,_,e,_⟩:=x; exact Heap.lt_size e
  | own y=>obtain ⟨_,e⟩:=x; exact Heap.lt_size e
  | xd fs=>obtain ⟨_,⟨_,_,_,e,_⟩,_⟩:=x; exact Heap.lt_size e
  | rng lo hi=>obtain ⟨_,_,_,e⟩:=x; exact Heap.lt_size e
  | frz ob u=>obtain ⟨e,_⟩:=x; exact Heap.lt_size e
  | tbl ps=>exact Heap.lt_size (show h.get? a=some _ from x)
  | met f y=>exact Heap.lt_size (show h.get? a=some _ from x)
  | ext φ=>obtain ⟨_,⟨_,e⟩,_⟩:=x; exact Heap.lt_size e
theorem Paired.mapP {α β:Type} {F G:α→β→Prop}:∀ {l₁:List α} {l₂:List β},Paired F l₁ l₂→(∀ a b,F a b→G a b)→Paired G l₁ l₂
  | _,_,.nil,_=>.nil
  | _,_,.cons r t,f=>.cons (f _ _ r) (Paired.mapP t f)
theorem ObjOk.stay (x:ObjOk P w H h a o) (k:∀ b u,(b=a∨H b=some (.own a))→h.get? b=some u→h'.get? b=some u)
    (ho:∀ b,H b=some (.own a)→H' b=some (.own a)) (ht:∀ b xs,H b=some (.tup xs)→H' b=some (.tup xs)):ObjOk P w H' h' a o:=by
  induction o with
  | lst xs=>obtain ⟨z,its,n,r,e⟩:=x; exact ⟨z,its,n,r,k _ _ (.inl rfl) e⟩
  | tup xs=>obtain ⟨z,its,r,ob,e,c⟩:=x; exact ⟨z,its,r,ob,k _ _ (.inl rfl) e,c⟩
  | dK kvs=>obtain ⟨z,y,vs,r,ob,es,ep,e,c⟩:=x; exact ⟨z,y,vs,r,ob,es,ep,k _ _ (.inl rfl) e,c⟩
  | dT kvs =>
    obtain ⟨z,y,xs,r,ob,es,ep,e,c⟩:=x
    exact ⟨z,y,xs,Paired.mapP r fun p q z=>⟨z.1,ht _ _ z.2.1,z.2.2⟩,ob,es,ep,k _ _ (.inl rfl) e,c⟩
  | set S n=>obtain ⟨ob,es,ep,t,e,c⟩:=x; exact ⟨ob,es,ep,t,k _ _ (.inl rfl) e,c⟩
  | ins C dx fs =>
    obtain ⟨d,z,ne,e,mA,⟨od,es,ep,e2,c⟩,r⟩:=x
    exact ⟨ho _ d,z,ne,k _ _ (.inl rfl) e,mA,⟨od,es,ep,k _ _ (.inr d) e2,c⟩,r⟩
  | own y=>obtain ⟨ob,e⟩:=x; exact ⟨ob,k _ _ (.inl rfl) e⟩
  | xd fs=>obtain ⟨mA,⟨od,es,ep,e,c⟩,r⟩:=x; exact ⟨mA,⟨od,es,ep,k _ _ (.inl rfl) e,c⟩,r⟩
  | rng lo hi=>obtain ⟨t,u,v,e⟩:=x; exact ⟨t,u,v,k _ _ (.inl rfl) e⟩
  | frz ob u ih=>obtain ⟨e,q⟩:=x; exact ⟨k _ _ (.inl rfl) e,ih q⟩
  | tbl ps =>
    have e:h.get? a=some { cls:=.none,data:=.fields ps }:=x
    show h'.get? a=some { cls:=.none,data:=.fields ps }
    exact k a _ (.inl rfl) e
  | met f y =>
    have e:h.get? a=some (PySem.W.methodObj (.ref f) (.ref y)):=x
    show h'.get? a=some (PySem.W.methodObj (.ref f) (.ref y))
    exact k a _ (.inl rfl) e
  | ext φ=>obtain ⟨p,⟨o,e⟩,st⟩:=x; exact ⟨st _ _ p fun o q=>k _ _ (.inl rfl) q,⟨o,k _ _ (.inl rfl) e⟩,st⟩
theorem HOk.lt (x:HOk P w H h) (e:H a=some o):a < h.objs.size:=(x a o e).lt
theorem HOk.fresh (x:HOk P w H h) (e:h.objs.size≤a):H a=none:=by
  cases q:H a with
  | none=>rfl
  | some u=>exact absurd (Nat.lt_of_lt_of_le (x.lt q) e) (Nat.lt_irrefl _)
theorem HOk.kept (x:HOk P w H h) (k:∀ b u,h.get? b=some u→h'.get? b=some u):HOk P w H h':=fun a o e =>
  (x a o e).stay (fun b u _ q=>k b u q) (fun _ q=>q) fun _ _ q=>q
theorem HOk.laid (x:HOk P w H h) (k:∀ b u,h.get? b=some u→h'.get? b=some u) (hp:h.objs.size≤a) (new:ObjOk P w (upd H a o) h' a o):HOk P w (upd H a o) h':=fun b u e=>by
  have hn:=x.fresh hp
  by_cases hb:b=a
  · subst hb; rw [upd_same] at e; cases e; exact new
  · rw [upd_ne hb] at e
    exact (x b u e).stay (fun c v _ q=>k c v q) (fun c q=>by rw [upd_ne (ne_of_none q hn)]; exact q) fun c xs q=>by rw [upd_ne (ne_of_none q hn)]; exact q
end
def Rd (H:Hp) (a:Addr) (u:HO):Prop:=H a=some u∨∃ o,H a=some (.frz o u)
theorem Rd.ok {P:Program} {w:World} {H:Hp} {h:Heap} {a:Addr} {u:HO} (r:Rd H a u) (x:HOk P w H h):ObjOk P w H h a u:=by
  rcases r with r | ⟨o,r⟩
  · exact x a u r
  · obtain ⟨_,q⟩:=x a _ r
    exact q
def Mut:Option HO→Prop
  | some (.lst _)=>True
  | some (.dK _)=>True
  | some (.dT _)=>True
  | some (.set _ _)=>True
  | some (.ins _ _ _)=>True
  | some (.ext _)=>True
  | _=>False
section
variable {P:Program} {w:World} {H:Hp} {h h':Heap} {x e:Addr} {o':HO}
theorem HOk.write (ok:HOk P w H h) (mu:Mut (H x)) (he:e=x∨H e=some (.own x)) (k:∀ b u,b≠e→h.get? b=some u→h'.get? b=some u) (heo:∃ u,h'.get? e=some u)
    (new:ObjOk P w (upd H x o') h' x o'):HOk P w (upd H x o') h':=fun b u q=>by
  have nown:∀ c y,H c=some (.own y)→c≠x:=fun c y r z=>by subst z; rw [r] at mu; exact mu
  have ntup:∀ c xs,H c=some (.tup xs)→c≠x:=fun c xs r z=>by subst z; rw [r] at mu; exact mu
  by_cases hb:b=x
  · subst hb; rw [upd_same] at q; cases q; exact new
  · rw [upd_ne hb] at q
    by_cases hbe:b=e
    · have q':H b=some (.own x):=by
        rcases he with z | z
        · exact absurd (hbe.trans z) hb
        · rw [hbe]; exact z
      rw [q] at q'; cases q'
      obtain ⟨v,hv⟩:=heo
      exact ⟨v,by rw [hbe]; exact hv⟩
    · refine (ok b u q).stay (fun c v hc r=>k c v ?_ r) (fun c r=>by rw [upd_ne (nown c b r)]; exact r) fun c xs r=>by rw [upd_ne (ntup c xs r)]; exact r
      rcases hc with rfl | hc
      · exact hbe
      · rintro rfl
        rcases he with z | z
        · exact nown c b hc z
        · rw [hc] at z; cases z; exact hb rfl
end
structure Un (fs ex:List Addr) (H H':Hp) (h h':Heap):Prop where
  keep:∀ b o,h.get? b=some o→H b=none→b ∉ fs→b ∉ ex→h'.get? b=some o
  slot:∀ b o,h.get? b=some o→H b=none→b∈fs→b ∉ ex→∃ sl,h'.get? b=some { o with slots:=sl }
  free:∀ b o,h.get? b=some o→H b=none→b ∉ ex→H' b=none
  there:∀ b o,h.get? b=some o→b ∉ ex→∃ o',h'.get? b=some o'
  tups:∀ b xs,H b=some (.tup xs)→H' b=some (.tup xs)
  frzs:∀ b o u,H b=some (.frz o u)→H' b=some (.frz o u)
  tbls:∀ b ps,H b=some (.tbl ps)→∃ more,H' b=some (.tbl (ps++more))
section
variable {fs fs' ex ex':List Addr} {H H1 H2:Hp} {h h1 h2 h':Heap} {a x e:Addr} {o:HO}
theorem Un.any (u:Un fs ex H H1 h h1) {b:Addr} {ob:Obj} (q:h.get? b=some ob) (n:H b=none) (hx:b ∉ ex):∃ sl,h1.get? b=some { ob with slots:=sl }:=by
  by_cases hb:b∈fs
  · exact u.slot b ob q n hb hx
  · exact ⟨ob.slots,u.keep b ob q n hb hx⟩
theorem Un.trans (a:Un fs ex H H1 h h1) (b:Un fs ex H1 H2 h1 h2):Un fs ex H H2 h h2 where
  keep:=fun c ob q n hc hx=>b.keep c ob (a.keep c ob q n hc hx) (a.free c ob q n hx) hc hx
  slot:=fun c ob q n hc hx=>by
    obtain ⟨sl,e1⟩:=a.slot c ob q n hc hx
    obtain ⟨sl',e2⟩:=b.slot c _ e1 (a.free c ob q n hx) hc hx
    exact ⟨sl',e2⟩
  free:=fun c ob q n hx=>by
    obtain ⟨o',e1⟩:=a.there c ob q hx
    exact b.free c o' e1 (a.free c ob q n hx) hx
  there:=fun c ob q hx=>by
    obtain ⟨o',e1⟩:=a.there c ob q hx
    exact b.there c o' e1 hx
  tups:=fun c xs q=>b.tups c xs (a.tups c xs q)
  frzs:=fun c ob xs q=>b.frzs c ob xs (a.frzs c ob xs q)
  tbls:=fun c ps q=>by
    obtain ⟨m1,e1⟩:=a.tbls c ps q
    obtain ⟨m2,e2⟩:=b.tbls c _ e1
    exact ⟨m1++m2,by rw [e2,Array.append_assoc]⟩
theorem Un.kept (k:∀ b u,h.get? b=some u→h'.get? b=some u):Un fs ex H H h h' :=
  ⟨fun b ob q _ _ _=>k b ob q,fun b ob q _ _ _=>⟨ob.slots,k b ob q⟩,fun _ _ _ n _=>n,fun b ob q _=>⟨ob,k b ob q⟩,fun _ _ q=>q,fun _ _ _ q=>q,fun _ ps q=>⟨#[],by rw [q]; simp⟩⟩
theorem Un.refl:Un fs ex H H h h:=Un.kept fun _ _ q=>q
theorem Un.laid (k:∀ b u,h.get? b=some u→h'.get? b=some u) (hp:h.objs.size≤a) (hn:H a=none):Un fs ex H (upd H a o) h h' where
  keep:=fun b u q _ _ _=>k b u q
  slot:=fun b u q _ _ _=>⟨u.slots,k b u q⟩
  free:=fun b u q n _=>by rw [upd_ne (Nat.ne_of_lt (Nat.lt_of_lt_of_le (Heap.lt_size q) hp))]; exact n
  there:=fun b u q _=>⟨u,k b u q⟩
  tups:=fun b xs q=>by rw [upd_ne (ne_of_none q hn)]; exact q
  frzs:=fun b u xs q=>by rw [upd_ne (ne_of_none q hn)]; exact q
  tbls:=fun b ps q=>⟨#[],by rw [upd_ne (ne_of_none q hn),q]; simp⟩
theorem Un.write (mu:Mut (H x)) (he:e=x∨H e=some (.own x)) (k:∀ b u,b≠e→h.get? b=some u→h'.get? b=some u) (heo:∃ u,h'.get? e=some u):Un fs ex H (upd H x o) h h':=by
  have hx:∀ b,H b=none→b≠x:=fun b n z=>by subst z; rw [n] at mu; exact mu
  have hb:∀ b,H b=none→b≠e:=fun b n z=>by
    subst z
    rcases he with r | r
    · exact hx b n r
    · rw [n] at r; cases r
  have hm:∀ b u,H b=some u→¬ Mut (some u)→b≠x:=fun b u q nm z=>by subst z; rw [q] at mu; exact nm mu
  refine ⟨fun b u q n _ _=>k b u (hb b n) q,fun b u q n _ _=>⟨u.slots,k b u (hb b n) q⟩,fun b u q n _=>by rw [upd_ne (hx b n)]; exact n,fun b u q _=>?_,
    fun b xs q=>by rw [upd_ne (hm b _ q fun z=>z)]; exact q,fun b u xs q=>by rw [upd_ne (hm b _ q fun z=>z)]; exact q,fun b ps q=>⟨#[],by rw [upd_ne (hm b _ q fun z=>z),q]; simp⟩⟩
  by_cases hbe:b=e
  · subst hbe; exact heo
  · exact ⟨u,k b u hbe q⟩
theorem Un.mono (u:Un fs ex H H1 h h1) (hs:∀ b∈fs,b∈fs') (hx:∀ b∈ex,b∈ex'):Un fs' ex' H H1 h h1 :=
  ⟨fun b ob q n hb he=>u.keep b ob q n (fun z=>hb (hs b z)) fun z=>he (hx b z),fun _ _ q n _ he=>u.any q n fun z=>he (hx _ z),fun b ob q n he=>u.free b ob q n fun z=>he (hx b z),fun b ob q he=>u.there b ob q fun z=>he (hx b z),u.tups,u.frzs,u.tbls⟩
end
def trk (h:Heap) (H:Hp):List Addr:=(List.range h.objs.size).filter fun a=>(H a).isSome
def hidT (h:Heap) (H:Hp):Heap:=PySem.W.hideAll h (trk h H)
theorem hidT_size (h:Heap) (H:Hp):(hidT h H).objs.size=h.objs.size:=PySem.W.hideAll_size _ _
theorem hidT_get {h:Heap} {H:Hp} {b:Addr} {o:Obj} (e:h.get? b=some o) (n:H b=none):(hidT h H).get? b=some o :=
  PySem.W.hideAll_get _ e fun hm=>by
    have q:(H b).isSome=true:=(List.mem_filter.mp hm).2
    rw [n] at q; simp at q
theorem of_hidT {h:Heap} {H:Hp} {b:Addr} {o:Obj} (e:(hidT h H).get? b=some o):h.get? b=some o∧H b=none:=by
  have e':h.get? b=some o:=PySem.W.of_hideAll (trk h H) e
  refine ⟨e',?_⟩
  cases q:H b with
  | none=>rfl
  | some x =>
    have hm:b∈trk h H:=List.mem_filter.mpr ⟨List.mem_range.mpr (Heap.lt_size e'),by simp [q]⟩
    have z:(hidT h H).get? b=none:=PySem.W.hideAll_none (trk h H) hm
    rw [z] at e; cases e
def allNews (g h:Heap) (L:Addr):List (Addr × Obj):=(List.range h.objs.size).filterMap fun a=>if a=L∨(g.get? a).isSome=true then none else (h.get? a).map fun o=>(a,o)
def rest (g h:Heap) (L d:Addr):List (Addr × Obj):=(allNews g h L).filter fun p=>decide (p.1≠d)
end L2
namespace L2
open PySem PySem.Spec PyProof.Rows
structure Mod (K:PySem.W.Frag) (mg:Str→Option Value) (base:Heap):Prop where
  kin:K.In base
  glob:base.Ns mainGlobals mg
  blt:∃ mb,base.Ns builtinsNs mb∧∀ x:Str,x ≠ "__name__"→mb x=bootBuiltins x
  nolimit:base.NoLimit
structure Cx where
  prog:Program
  w:World
  K:PySem.W.Frag
  mg:Str→Option Value
  base:Heap
  A:Around
  N:List Str
  s₀:Shared
  H₀:Hp
  env:Env
  outer:List Env
  stack:List Env
  ex:List Addr
  fn:Str→Bool
  calm:Bool
  pn:List (Addr × Obj)
  xe:Value→Shared→Prop
def frs (l:List Env):List Addr:=l.filterMap (·.frame)
abbrev Cx.fs (X:Cx):List Addr:=frs X.outer
def Vis (sc:Scope) (x:Str):Prop:=sc.names.lookup x=some .local∨sc.names.lookup x=some .cell∨sc.names.lookup x=some .free
def Loc (sc:Scope) (x:Str):Prop:=sc.names.lookup x=some .local∨sc.names.lookup x=some .cell
def Look (env:Env) (h:Heap) (m:Str→Option Value) (x:Str) (u:Value):Prop :=
  (env.kindOf x=some .local∧m x=some u)∨((env.kindOf x=some .cell∨env.kindOf x=some .free)∧∃ c,env.cells.lookup x=some c∧h.IsCell c (some u))
structure Cx.Ok (X:Cx):Prop where
  mod:Mod X.K X.mg X.base
  kind:X.env.scope.kind=.function
  glob:X.env.globals=mainGlobals
  blt:X.env.builtins=builtinsNs
  above:X.s₀.heap.objs.size≤X.env.locals
  inj:∀ x y c,X.env.cells.lookup x=some c→X.env.cells.lookup y=some c→x=y
  has:∀ x,(X.env.kindOf x=some .cell∨X.env.kindOf x=some .free)→∃ c,X.env.cells.lookup x=some c
  cab:∀ x c,X.fn x=true→X.env.cells.lookup x=some c→X.s₀.heap.objs.size≤c
  hd:X.calm=true→X.A.handled=none
  frames:X.A.frames=some X.stack
  stk:X.stack=X.outer∨(X.stack=X.env :: X.outer∧X.env.frame=some X.env.locals)
  exf:∀ b∈X.ex,b≠X.env.locals∧∀ x c,X.env.cells.lookup x=some c→c≠b
  bs:∀ b o,X.base.get? b=some o→X.s₀.heap.get? b=some o∧X.H₀ b=none
  bsz:X.base.objs.size≤X.s₀.heap.objs.size
  noex:∀ b o,X.base.get? b=some o→b ∉ X.ex
  exfs:∀ b∈X.ex,b ∉ X.fs
  funs:X.s₀.heap.FunFrames X.base X.outer
  frf:∀ b∈X.fs,X.H₀ b=none
structure Inv (X:Cx) (pins:List (Addr × Obj)) (σ:List (Option V)) (H:Hp) (s:Shared):Prop where
  ok:X.Ok
  os:s.os=X.s₀.os
  bare:AllBare s.gens
  base:Un X.fs X.ex X.H₀ H X.s₀.heap s.heap
  loc:∃ m,s.heap.Ns X.env.locals m∧∀ (i:Nat) (x:Str) (v:V),X.N[i]?=some x→σ[i]?=some (some v)→Vis X.env.scope x→∃ u,RelV v u∧Look X.env s.heap m x u
  cell:∀ x c,X.env.cells.lookup x=some c→∃ v,s.heap.IsCell c v
  free:H X.env.locals=none
  freeC:∀ x c,X.env.cells.lookup x=some c→H c=none
  pin:∀ p∈X.pn++pins,s.heap.get? p.1=some p.2∧H p.1=none∧p.1≠X.env.locals∧p.1 ∉ X.fs∧∀ v,p.2.data≠.cell v
  hok:HOk X.prog X.w H s.heap
  len:σ.length=X.N.length
section
variable {X:Cx} {pins:List (Addr × Obj)} {σ:List (Option V)} {H H':Hp} {s:Shared} {h':Heap}
theorem Cx.Ok.nofr (ok:X.Ok) {b:Addr} {o:Obj} (e:X.base.get? b=some o):b ∉ X.fs:=fun hb=>by
  have:=(ok.funs.mem hb).1
  rw [e] at this; cases this
theorem Inv.bs (I:Inv X pins σ H s):∀ b o,X.base.get? b=some o→s.heap.get? b=some o∧H b=none:=fun b o e =>
  ⟨I.base.keep b o (I.ok.bs b o e).1 (I.ok.bs b o e).2 (I.ok.nofr e) (I.ok.noex b o e),I.base.free b o (I.ok.bs b o e).1 (I.ok.bs b o e).2 (I.ok.noex b o e)⟩
theorem Inv.bk (I:Inv X pins σ H s):∀ b o,X.base.get? b=some o→s.heap.get? b=some o:=fun b o e=>(I.bs b o e).1
theorem Inv.mod (I:Inv X pins σ H s):Mod X.K X.mg X.base:=I.ok.mod
theorem Inv.kIn (I:Inv X pins σ H s):X.K.In s.heap:=I.ok.mod.kin.keeps I.bk
theorem Inv.nolimit (I:Inv X pins σ H s):s.heap.NoLimit:=I.ok.mod.nolimit.keeps I.bk
theorem Inv.fr (I:Inv X pins σ H s):∃ m,Fr X.base X.env.locals s.heap m :=
  let ⟨m,hn,_⟩:=I.loc
  ⟨m,hn,I.bk,Nat.le_trans I.ok.bsz I.ok.above⟩
theorem Inv.lt (I:Inv X pins σ H s):X.env.locals < s.heap.objs.size:=let ⟨_,hn,_⟩:=I.loc; hn.lt
theorem Inv.sz (I:Inv X pins σ H s):X.s₀.heap.objs.size≤s.heap.objs.size:=Nat.le_trans I.ok.above (Nat.le_of_lt I.lt)
theorem Inv.nofs (I:Inv X pins σ H s) {a:Addr} (h:s.heap.objs.size≤a):a ∉ X.fs:=fun hb=>by
  obtain ⟨_,o,ho,_⟩:=I.ok.funs.mem hb
  exact absurd (Nat.lt_of_lt_of_le (Heap.lt_size ho) (Nat.le_trans I.sz h)) (Nat.lt_irrefl _)
theorem Inv.cne (I:Inv X pins σ H s):∀ x c,X.env.cells.lookup x=some c→c≠X.env.locals:=fun x c e z=>by
  obtain ⟨v,o,ho,hd⟩:=I.cell x c e
  obtain ⟨m,⟨o',es,ep,ho',hd',_⟩,_⟩:=I.loc
  rw [z,ho'] at ho; cases ho; rw [hd'] at hd; cases hd
theorem Inv.funs (I:Inv X pins σ H s):s.heap.FunFrames X.base X.outer:=by
  have all:∀ (l:List Env),(∀ b∈frs l,b∈X.fs)→X.s₀.heap.FunFrames X.base l→s.heap.FunFrames X.base l:=by
    intro l
    induction l with
    | nil=>intro _ _; trivial
    | cons env r ih =>
      intro hs hl
      obtain ⟨hk,⟨L,o,hf,hn,ho,hd⟩,hr⟩:=hl
      have hL:L∈X.fs:=hs L (by unfold frs; rw [List.filterMap_cons,hf]; exact List.mem_cons_self)
      obtain ⟨sl,e⟩:=I.base.slot L o ho (I.ok.frf L hL) hL fun z=>I.ok.exfs L z hL
      exact ⟨hk,⟨L,_,hf,hn,e,hd⟩,ih (fun b hb=>hs b (by unfold frs; rw [List.filterMap_cons,hf]; exact List.mem_cons_of_mem _ hb)) hr⟩
  exact all X.outer (fun _ hb=>hb) I.ok.funs
theorem Inv.stack (I:Inv X pins σ H s):s.heap.FunFrames X.base X.stack:=by
  rcases I.ok.stk with e | ⟨e,hf⟩
  · rw [e]; exact I.funs
  · rw [e]
    obtain ⟨m,hn,_⟩:=I.loc
    refine .cons (by rw [I.ok.kind]; decide) hf hn ?_ I.funs
    exact Heap.get?_none_of_le (Nat.le_trans I.ok.bsz I.ok.above)
theorem Inv.stkSub (I:Inv X pins σ H s):∀ b∈frs X.stack,b∈X.env.locals :: X.fs:=fun b hb=>by
  rcases I.ok.stk with e | ⟨e,hf⟩
  · rw [e] at hb; exact List.mem_cons_of_mem _ hb
  · rw [e] at hb
    unfold frs at hb
    rw [List.filterMap_cons,hf] at hb
    exact hb
theorem Inv.stkFree (I:Inv X pins σ H s):∀ b∈frs X.stack,H b=none:=fun b hb=>by
  rcases List.mem_cons.mp (I.stkSub b hb) with e | hb
  · rw [e]; exact I.free
  · obtain ⟨_,o,ho,_⟩:=I.ok.funs.mem hb
    exact I.base.free b o ho (I.ok.frf b hb) fun z=>I.ok.exfs b z hb
theorem Inv.step {g':Array GenState} {t':Nat} {d':Drawn} {ch:List Addr} (I:Inv X pins σ H s)
    (hch:∀ b∈ch,(b∈X.ex∨X.s₀.heap.objs.size≤b)∧b≠X.env.locals∧(∀ x c,X.env.cells.lookup x=some c→c≠b)∧∀ p∈X.pn++pins,p.1≠b)
    (keep:∀ b o,b≠X.env.locals→b ∉ X.fs→b ∉ ch→s.heap.get? b=some o→H b=none→h'.get? b=some o)
    (slot:∀ b o,b≠X.env.locals→b∈X.fs→b ∉ ch→s.heap.get? b=some o→H b=none→∃ sl,h'.get? b=some { o with slots:=sl }) (free:∀ b o,b ∉ ch→s.heap.get? b=some o→H b=none→H' b=none)
    (there:∀ b o,b ∉ ch→s.heap.get? b=some o→∃ o',h'.get? b=some o')
    (tups:∀ b xs,H b=some (.tup xs)→H' b=some (.tup xs)) (frzs:∀ b o u,H b=some (.frz o u)→H' b=some (.frz o u)) (tbls:∀ b ps,H b=some (.tbl ps)→∃ more,H' b=some (.tbl (ps++more)))
    (ns:∀ m,s.heap.Ns X.env.locals m→h'.Ns X.env.locals m) (hok:HOk X.prog X.w H' h') (hg:AllBare g') :
    Inv X pins σ H' { s with heap:=h',gens:=g',drawn:=d',toks:=t' }:=by
  have neL:∀ b o,X.s₀.heap.get? b=some o→b≠X.env.locals:=fun b o e=>Nat.ne_of_lt (Nat.lt_of_lt_of_le (Heap.lt_size e) I.ok.above)
  have neC:∀ b o,X.s₀.heap.get? b=some o→b ∉ X.ex→b ∉ ch:=fun b o e hx hb=>by
    rcases (hch b hb).1 with z | z
    · exact hx z
    · exact absurd (Nat.lt_of_lt_of_le (Heap.lt_size e) z) (Nat.lt_irrefl _)
  have cellK:∀ x c,X.env.cells.lookup x=some c→∀ v,s.heap.IsCell c v→h'.IsCell c v:=fun x c e v ⟨o,ho,hd⟩=>by
    have nch:c ∉ ch:=fun z=>(hch c z).2.2.1 x c e rfl
    by_cases hc:c∈X.fs
    · obtain ⟨sl,q⟩:=slot c o (I.cne x c e) hc nch ho (I.freeC x c e)
      exact ⟨_,q,hd⟩
    · exact ⟨o,keep c o (I.cne x c e) hc nch ho (I.freeC x c e),hd⟩
  refine ⟨I.ok,I.os,hg,⟨fun b o e n hb hx=>?_,fun b o e n hb hx=>?_,fun b o e n hx=>?_,fun b o e hx=>?_,fun b xs e=>tups b xs (I.base.tups b xs e),fun b o xs e=>frzs b o xs (I.base.frzs b o xs e),fun b ps e=>?_⟩,?_,fun x c e=>?_,?_,fun x c e=>?_,fun p hp=>?_,hok,I.len⟩
  · exact keep b o (neL b o e) hb (neC b o e hx) (I.base.keep b o e n hb hx) (I.base.free b o e n hx)
  · obtain ⟨sl,e1⟩:=I.base.slot b o e n hb hx
    obtain ⟨sl',e2⟩:=slot b _ (neL b o e) hb (neC b o e hx) e1 (I.base.free b o e n hx)
    exact ⟨sl',e2⟩
  · obtain ⟨o',e1⟩:=I.base.there b o e hx
    exact free b o' (neC b o e hx) e1 (I.base.free b o e n hx)
  · obtain ⟨o',e1⟩:=I.base.there b o e hx
    exact there b o' (neC b o e hx) e1
  · obtain ⟨m1,e1⟩:=I.base.tbls b ps e
    obtain ⟨m2,e2⟩:=tbls b _ e1
    exact ⟨m1++m2,by rw [e2,Array.append_assoc]⟩
  · obtain ⟨m,hn,hl⟩:=I.loc
    refine ⟨m,ns m hn,fun i x v e1 e2 e3=>?_⟩
    obtain ⟨u,r,l⟩:=hl i x v e1 e2 e3
    refine ⟨u,r,?_⟩
    rcases l with l | ⟨k,c,e,z⟩
    · exact .inl l
    · exact .inr ⟨k,c,e,cellK x c e _ z⟩
  · obtain ⟨v,z⟩:=I.cell x c e
    exact ⟨v,cellK x c e v z⟩
  · obtain ⟨m,⟨o,_,_,ho,_⟩,_⟩:=I.loc
    exact free _ o (fun z=>(hch _ z).2.1 rfl) ho I.free
  · obtain ⟨v,o,ho,hd⟩:=I.cell x c e
    exact free c o (fun z=>(hch c z).2.2.1 x c e rfl) ho (I.freeC x c e)
  · obtain ⟨e,n,ne,nf,d⟩:=I.pin p hp
    have nch:p.1 ∉ ch:=fun z=>(hch p.1 z).2.2.2 p hp rfl
    exact ⟨keep p.1 p.2 ne nf nch e n,free p.1 p.2 nch e n,ne,nf,d⟩
theorem Inv.un {t':Nat} (I:Inv X pins σ H s) (u:Un X.fs [] H H' s.heap h') (hok:HOk X.prog X.w H' h'):Inv X pins σ H' { s with heap:=h',toks:=t' }:=by
  obtain ⟨m,⟨o,es,ep,ho,r⟩,_⟩:=id I.loc
  obtain ⟨sl,hL⟩:=u.any ho I.free (by simp)
  exact I.step (g':=s.gens) (d':=s.drawn) (ch:=[]) (fun _ z=>nomatch z) (fun b o _ hb _ e n=>u.keep b o e n hb (by simp)) (fun b o _ hb _ e n=>u.slot b o e n hb (by simp)) (fun b o _ e n=>u.free b o e n (by simp)) (fun b o _ e=>u.there b o e (by simp)) u.tups u.frzs u.tbls (fun m' hm=>by
    obtain ⟨o',es',ep',ho',r'⟩:=hm
    rw [ho] at ho'; cases ho'
    exact ⟨_,es',ep',hL,r'⟩) hok I.bare
theorem Inv.call {g':Array GenState} {t':Nat} {d':Drawn} {ch:List Addr} (I:Inv X pins σ H s) (u:Un (frs X.stack) ch H H' s.heap h') (hok:HOk X.prog X.w H' h') (hg:AllBare g')
    (hch:∀ b∈ch,(b∈X.ex∨X.s₀.heap.objs.size≤b)∧b≠X.env.locals∧(∀ x c,X.env.cells.lookup x=some c→c≠b)∧∀ p∈X.pn++pins,p.1≠b) :
    Inv X pins σ H' { s with heap:=h',gens:=g',drawn:=d',toks:=t' }:=by
  obtain ⟨m,⟨o,es,ep,ho,r⟩,_⟩:=id I.loc
  obtain ⟨sl,hL⟩:=u.any ho I.free fun z=>(hch _ z).2.1 rfl
  exact I.step (ch:=ch) hch (fun b o hL hb hc e n=>u.keep b o e n (fun z=>(List.mem_cons.mp (I.stkSub b z)).elim hL hb) hc) (fun b o _ _ hc e n=>u.any e n hc) (fun b o hc e n=>u.free b o e n hc) (fun b o hc e=>u.there b o e hc) u.tups u.frzs u.tbls (fun m' hm=>by
    obtain ⟨o',es',ep',ho',r'⟩:=hm
    rw [ho] at ho'; cases ho'
    exact ⟨_,es',ep',hL,r'⟩) hok hg
theorem Inv.turned {t':Nat} {it:Addr} (I:Inv X pins σ H s) (k:∀ b o,b≠it→s.heap.get? b=some o→h'.get? b=some o) (hn:H it=none) (hL:it≠X.env.locals)
    (h1:it∈X.ex∨X.s₀.heap.objs.size≤it) (h2:∀ x c,X.env.cells.lookup x=some c→c≠it) (h3:∀ p∈X.pn++pins,p.1≠it):Inv X pins σ H { s with heap:=h',toks:=t' }:=by
  have nit:∀ b u,H b=some u→b≠it:=fun b u e z=>by rw [z,hn] at e; cases e
  refine I.step (g':=s.gens) (d':=s.drawn) (ch:=[it]) (fun b hb=>?_) (fun b o _ _ hc e _=>k b o (fun z=>hc (by simp [z])) e) (fun b o _ _ hc e _=>⟨o.slots,k b o (fun z=>hc (by simp [z])) e⟩) (fun _ _ _ _ n=>n)
    (fun b o hc e=>⟨o,k b o (fun z=>hc (by simp [z])) e⟩) (fun _ _ e=>e) (fun _ _ _ e=>e) (fun b ps e=>⟨#[],by rw [e]; simp⟩) (fun m hm=>?_) (fun b u e=>?_) I.bare
  · have e:b=it:=by simpa using hb
    subst e
    exact ⟨h1,hL,h2,h3⟩
  · obtain ⟨o,es,ep,ho,r⟩:=hm
    exact ⟨o,es,ep,k _ o (Ne.symm hL) ho,r⟩
  · refine (I.hok b u e).stay (fun c v hc q=>k c v ?_ q) (fun _ q=>q) fun _ _ q=>q
    rcases hc with z | z
    · rw [z]; exact nit b u e
    · exact nit c _ z
theorem Inv.tok (I:Inv X pins σ H s) (t:Nat):Inv X pins σ H { s with toks:=t }:=I.un (h':=s.heap) (t':=t) Un.refl I.hok
theorem Inv.kept {t':Nat} (I:Inv X pins σ H s) (k:∀ b u,s.heap.get? b=some u→h'.get? b=some u):Inv X pins σ H { s with heap:=h',toks:=t' }:=I.un (Un.kept k) (I.hok.kept k)
theorem Inv.laid {a:Addr} {o:HO} {t':Nat} (I:Inv X pins σ H s) (k:∀ b u,s.heap.get? b=some u→h'.get? b=some u) (hp:s.heap.objs.size≤a) (new:ObjOk X.prog X.w (upd H a o) h' a o) :
    Inv X pins σ (upd H a o) { s with heap:=h',toks:=t' }:=I.un (Un.laid k hp (I.hok.fresh hp)) (I.hok.laid k hp new)
theorem Inv.write {x e:Addr} {o:HO} {t':Nat} (I:Inv X pins σ H s) (mu:Mut (H x)) (he:e=x∨H e=some (.own x)) (k:∀ b u,b≠e→s.heap.get? b=some u→h'.get? b=some u) (heo:∃ u,h'.get? e=some u)
    (new:ObjOk X.prog X.w (upd H x o) h' x o):Inv X pins σ (upd H x o) { s with heap:=h',toks:=t' }:=I.un (Un.write mu he k heo) (I.hok.write mu he k heo new)
theorem Inv.pins_of {pins':List (Addr × Obj)} (I:Inv X pins σ H s) (h:∀ p∈pins',s.heap.get? p.1=some p.2∧H p.1=none∧p.1≠X.env.locals∧p.1 ∉ X.fs∧∀ v,p.2.data≠.cell v):Inv X pins' σ H s :=
  ⟨I.ok,I.os,I.bare,I.base,I.loc,I.cell,I.free,I.freeC,fun p hp=>(List.mem_append.mp hp).elim (fun z=>I.pin p (List.mem_append_left _ z)) (h p),I.hok,I.len⟩
theorem nodup_ix {N:List Str} (hN:N.Nodup) {i j:Nat} {x:Str} (a:N[i]?=some x) (b:N[j]?=some x):i=j:=by
  obtain ⟨h1,e1⟩:=List.getElem?_eq_some_iff.mp a
  obtain ⟨h2,e2⟩:=List.getElem?_eq_some_iff.mp b
  exact (List.getElem_inj hN).mp (e1.trans e2.symm)
theorem store_ok2 {M:Model} {A:Around} {E:Value→Shared→Prop} {i:Nat} {x:Str} {v:V} {u:Value} {Q:Unit→Shared→Prop} (I:Inv X pins σ H s) (hN:X.N.Nodup) (hi:X.N[i]?=some x) (hx:Loc X.env.scope x) (r:RelV v u)
    (h:∀ s',Inv X pins (σ.set i (some v)) H s'→(∃ a,Heap.SameBut a s.heap s'.heap∧(a=X.env.locals∨X.env.cells.lookup x=some a))→Q () s') (hf:X.fn x=true∨X.env.scope.names.lookup x=some .local:=by first | exact .inl rfl | exact .inr rfl | assumption):wpAny M A (storeName X.env x u) Q E s:=by
  obtain ⟨m,hn,hl⟩:=id I.loc
  have hcls:(X.env.scope.kind == .class || (X.env.scope.kind == .module && X.env.locals != X.env.globals))=false:=by rw [I.ok.kind]; rfl
  have hiσ:i < σ.length:=by rw [I.len]; exact (List.getElem?_eq_some_iff.mp hi).1
  have cne:=I.cne
  have tracked:∀ {a:Addr} {h':Heap},(∃ o,s.heap.get? a=some o∧H a=none)→Heap.SameBut a s.heap h'→HOk X.prog X.w H h':=fun {a h'} ha hs b ob e=>by
    obtain ⟨_,_,hfree⟩:=ha
    refine (I.hok b ob e).stay (fun c w' hc q=>(hs.2 c ?_).trans q) (fun _ q=>q) fun _ _ q=>q
    rintro rfl
    rcases hc with rfl | hc
    · rw [hfree] at e; cases e
    · rw [hfree] at hc; cases hc
  rcases hx with hk | hk
  · refine wpAny_storeName_local hk hn (fun h' hn' hs=>?_) hcls
    obtain ⟨oL,_,_,hoL,_⟩:=id hn
    refine h _ ⟨I.ok,I.os,I.bare,⟨fun b o e n hb hx=>?_,fun b o e n hb hx=>?_,I.base.free,fun b o e hx=>?_,I.base.tups,I.base.frzs,I.base.tbls⟩,⟨_,hn',fun j y v' e1 e2 e3=>?_⟩,fun y c e=>?_,I.free,I.freeC,fun p hp=>?_,tracked ⟨oL,hoL,I.free⟩ hs,by simpa using I.len⟩ ⟨_,hs,.inl rfl⟩
    · exact (hs.2 b (Nat.ne_of_lt (Nat.lt_of_lt_of_le (Heap.lt_size e) I.ok.above))).trans (I.base.keep b o e n hb hx)
    · obtain ⟨sl,e1⟩:=I.base.slot b o e n hb hx
      exact ⟨sl,(hs.2 b (Nat.ne_of_lt (Nat.lt_of_lt_of_le (Heap.lt_size e) I.ok.above))).trans e1⟩
    · obtain ⟨o',e1⟩:=I.base.there b o e hx
      exact ⟨o',(hs.2 b (Nat.ne_of_lt (Nat.lt_of_lt_of_le (Heap.lt_size e) I.ok.above))).trans e1⟩
    · by_cases hj:j=i
      · subst hj
        rw [hi] at e1; cases e1
        rw [List.getElem?_set_self hiσ] at e2
        cases e2
        exact ⟨u,r,.inl ⟨hk,by simp⟩⟩
      · rw [List.getElem?_set_ne (Ne.symm hj)] at e2
        obtain ⟨u',r',q⟩:=hl j y v' e1 e2 e3
        refine ⟨u',r',?_⟩
        rcases q with ⟨k,e⟩ | ⟨k,c,e,z⟩
        · refine .inl ⟨k,?_⟩
          have:y≠x:=fun e=>hj (nodup_ix hN e1 (e ▸ hi))
          simp [this,e]
        · exact .inr ⟨k,c,e,z.sameBut hs (cne y c e)⟩
    · obtain ⟨w',z⟩:=I.cell y c e
      exact ⟨w',z.sameBut hs (cne y c e)⟩
    · obtain ⟨e,n,ne,nf,d⟩:=I.pin p hp
      exact ⟨(hs.2 p.1 ne).trans e,n,ne,nf,d⟩
  · have hfn:X.fn x=true:=by
      rcases hf with z | z
      · exact z
      · rw [z] at hk; cases hk
    obtain ⟨c,hc⟩:=I.ok.has x (.inl hk)
    obtain ⟨w',z⟩:=I.cell x c hc
    refine wpAny_storeName_cell I.ok.kind hk hc z (fun h' hc' hs=>?_)
    obtain ⟨oc,hoc,hocd⟩:=id z
    refine h { s with heap:=h' } ⟨I.ok,I.os,I.bare,⟨fun b o e n hb hx=>?_,fun b o e n hb hx=>?_,I.base.free,fun b o e hx=>?_,I.base.tups,I.base.frzs,I.base.tbls⟩,⟨m,hn.sameBut hs (Ne.symm (cne x c hc)),fun j y v' e1 e2 e3=>?_⟩,fun y c' e=>?_,I.free,I.freeC,fun p hp=>?_,tracked ⟨oc,hoc,I.freeC x c hc⟩ hs,by simpa using I.len⟩ ⟨c,hs,.inr hc⟩
    · exact (hs.2 b (Nat.ne_of_lt (Nat.lt_of_lt_of_le (Heap.lt_size e) (I.ok.cab x c hfn hc)))).trans (I.base.keep b o e n hb hx)
    · obtain ⟨sl,e1⟩:=I.base.slot b o e n hb hx
      exact ⟨sl,(hs.2 b (Nat.ne_of_lt (Nat.lt_of_lt_of_le (Heap.lt_size e) (I.ok.cab x c hfn hc)))).trans e1⟩
    · obtain ⟨o',e1⟩:=I.base.there b o e hx
      exact ⟨o',(hs.2 b (Nat.ne_of_lt (Nat.lt_of_lt_of_le (Heap.lt_size e) (I.ok.cab x c hfn hc)))).trans e1⟩
    · by_cases hj:j=i
      · subst hj
        rw [hi] at e1; cases e1
        rw [List.getElem?_set_self hiσ] at e2
        cases e2
        exact ⟨u,r,.inr ⟨.inl hk,c,hc,hc'⟩⟩
      · rw [List.getElem?_set_ne (Ne.symm hj)] at e2
        obtain ⟨u',r',q⟩:=hl j y v' e1 e2 e3
        refine ⟨u',r',?_⟩
        rcases q with q | ⟨k,c',e,z'⟩
        · exact .inl q
        · refine .inr ⟨k,c',e,z'.sameBut hs ?_⟩
          rintro rfl
          exact hj (nodup_ix hN e1 (I.ok.inj _ _ _ e hc ▸ hi))
    · by_cases hcc:c'=c
      · subst hcc; exact ⟨_,hc'⟩
      · obtain ⟨w2,z2⟩:=I.cell y c' e
        exact ⟨w2,z2.sameBut hs hcc⟩
    · obtain ⟨e,n,ne,nf,d⟩:=I.pin p hp
      refine ⟨(hs.2 p.1 ?_).trans e,n,ne,nf,d⟩
      intro q
      rw [q,hoc] at e
      have q':oc=p.2:=Option.some.inj e
      exact d w' (by rw [← q']; exact hocd)
theorem store_ok {M:Model} {A:Around} {E:Value→Shared→Prop} {i:Nat} {x:Str} {v:V} {u:Value} {Q:Unit→Shared→Prop} (I:Inv X pins σ H s) (hN:X.N.Nodup) (hi:X.N[i]?=some x) (hx:Loc X.env.scope x) (r:RelV v u)
    (h:∀ s',Inv X pins (σ.set i (some v)) H s'→Q () s') (hf:X.fn x=true∨X.env.scope.names.lookup x=some .local:=by first | exact .inl rfl | exact .inr rfl | assumption):wpAny M A (storeName X.env x u) Q E s :=
  store_ok2 I hN hi hx r (fun s' I' _=>h s' I') hf
theorem Inv.call' {s':Shared} {ch:List Addr} (I:Inv X pins σ H s) (ho:s'.os=s.os) (u:Un (frs X.stack) ch H H' s.heap s'.heap) (hok:HOk X.prog X.w H' s'.heap) (hg:AllBare s'.gens)
    (hch:∀ b∈ch,(b∈X.ex∨X.s₀.heap.objs.size≤b)∧b≠X.env.locals∧(∀ x c,X.env.cells.lookup x=some c→c≠b)∧∀ p∈X.pn++pins,p.1≠b):Inv X pins σ H' s':=by
  obtain ⟨h',g',d',t',o'⟩:=s'
  have e:o'=s.os:=ho
  subst e
  exact I.call (g':=g') (t':=t') (d':=d') u hok hg hch
end
abbrev XK:=Value→Option Addr→Hp→Prop
abbrev St:=List (Option V)
abbrev VK:=V→Hp→Prop
abbrev TE:=St→Hp→VK→Prop
abbrev TT:=St→Hp→(Bool→Hp→Prop)→Prop
abbrev TA:=St→Hp→(List V→Hp→Prop)→Prop
structure Ends where
  nx:St→Hp→Prop
  rt:VK
  bk:St→Hp→Prop:=fun _ _=>False
  ct:St→Hp→Prop:=fun _ _=>False
abbrev TS:=Ends→St→Hp→Prop
def EP (X:Cx) (pins:List (Addr × Obj)) (σ:St) (Q:VK) (u:Value) (s':Shared):Prop:=∃ v H',Inv X pins σ H' s'∧RelV v u∧Q v H'
def TP (X:Cx) (pins:List (Addr × Obj)) (σ:St) (Q:Bool→Hp→Prop) (b:Bool) (s':Shared):Prop:=∃ H',Inv X pins σ H' s'∧Q b H'
def AP (X:Cx) (pins:List (Addr × Obj)) (σ:St) (Q:List V→Hp→Prop) (us:List Value) (s':Shared):Prop:=∃ vs H',Inv X pins σ H' s'∧Vals vs us∧Q vs H'
def SP (X:Cx) (pins:List (Addr × Obj)) (D:Ends) (f:Flow) (s':Shared):Prop :=
  match f with
  | .next=>∃ σ' H',Inv X pins σ' H' s'∧D.nx σ' H'
  | .brk=>∃ σ' H',Inv X pins σ' H' s'∧D.bk σ' H'
  | .cont=>∃ σ' H',Inv X pins σ' H' s'∧D.ct σ' H'
  | .ret u=>∃ v σ' H',Inv X pins σ' H' s'∧RelV v u∧D.rt v H'
def PE (X:Cx) (e:Expr) (t:TE):Prop :=
  ∀ (pins:List (Addr × Obj)) (s:Shared) (σ:St) (H:Hp) (Q:VK),Inv X pins σ H s→t σ H Q→wpAny (model X.prog X.w) X.A (eval e X.env) (EP X pins σ Q) X.xe s
def PT (X:Cx) (e:Expr) (t:TT):Prop :=
  ∀ (pins:List (Addr × Obj)) (s:Shared) (σ:St) (H:Hp) (Q:Bool→Hp→Prop),Inv X pins σ H s→t σ H Q→wpAny (model X.prog X.w) X.A (isTrue e X.env (eval e X.env)) (TP X pins σ Q) X.xe s
def PW (X:Cx) (e:Expr) (t:TT):Prop :=
  ∀ (whole:Sem Value) (pins:List (Addr × Obj)) (s:Shared) (σ:St) (H:Hp) (Q:Bool→Hp→Prop),Inv X pins σ H s→t σ H Q→wpAny (model X.prog X.w) X.A (isTrue e X.env whole) (TP X pins σ Q) X.xe s
theorem PW.pt {X:Cx} {e:Expr} {t:TT} (h:PW X e t):PT X e t:=h _
def PA (X:Cx) (es:List Expr) (t:TA):Prop :=
  ∀ (pos:Pos) (pins:List (Addr × Obj)) (s:Shared) (σ:St) (H:Hp) (Q:List V→Hp→Prop),Inv X pins σ H s→t σ H Q→wpAny (model X.prog X.w) X.A (spliced (backTo pos (starEach es X.env))) (AP X pins σ Q) X.xe s
def PS (X:Cx) (st:Stmt) (t:TS):Prop :=
  ∀ (pins:List (Addr × Obj)) (s:Shared) (σ:St) (H:Hp) (D:Ends),Inv X pins σ H s→t D σ H→wpAny (model X.prog X.w) X.A (exec st X.env) (SP X pins D) X.xe s
def PSs (X:Cx) (st:List Stmt) (t:TS):Prop :=
  ∀ (pins:List (Addr × Obj)) (s:Shared) (σ:St) (H:Hp) (D:Ends),Inv X pins σ H s→t D σ H→wpAny (model X.prog X.w) X.A (execs st X.env) (SP X pins D) X.xe s
theorem thn {α:Type} {t:Sem α} {Q Q':α→Shared→Prop} {M:Model} {A:Around} {E:Value→Shared→Prop} {s:Shared} (h:wpAny M A t Q E s) (hQ:∀ a s,Q a s→Q' a s):wpAny M A t Q' E s:=wpAny_mono h hQ fun _ _ x=>x
end L2
namespace L2
open PySem PySem.Spec PyProof.Rows
section
variable {X:Cx}
theorem bin {a b:Expr} {ta tb:TE} (ha:PE X a ta) (hb:PE X b tb) {pins:List (Addr × Obj)} {s:Shared} {σ:St} {H:Hp} {R:V→V→Hp→Prop} (I:Inv X pins σ H s) (h:ta σ H fun x H1=>tb σ H1 fun y H2=>R x y H2)
    {α:Type} {Q:α→Shared→Prop} {f:Value→Value→Sem α}
    (hf:∀ v u s2 x y H2,Inv X pins σ H2 s2→RelV x v→RelV y u→R x y H2→wpAny (model X.prog X.w) X.A (f v u) Q X.xe s2) :
    wpAny (model X.prog X.w) X.A (eval a X.env) (fun v s₁=>wpAny (model X.prog X.w) X.A (eval b X.env) (fun u s₂=>wpAny (model X.prog X.w) X.A (f v u) Q X.xe s₂) X.xe s₁) X.xe s:=by
  refine thn (ha pins s σ H _ I h) fun v s1 ⟨x,H1,I1,r1,q1⟩=>?_
  refine thn (hb pins s1 σ H1 _ I1 q1) fun u s2 ⟨y,H2,I2,r2,q2⟩=>?_
  exact hf v u s2 x y H2 I2 r1 r2 q2
def tVar (i:Nat):TE:=fun σ H Q=>∃ v,σ[i]?=some (some v)∧Q v H
def tC (v:V):TE:=fun _ H Q=>Q v H
theorem pe_var {i:Nat} {x:Str} {pos:Pos} (hN:X.N[i]?=some x) (hv:Vis X.env.scope x) (hd:(x == ("__debug__" : Str))=false:=by decide) (hcd:(x == ("__classdict__" : Str))=false:=by decide):PE X (.Name x pos) (tVar i):=by
  intro pins s σ H Q I h
  obtain ⟨v,e,h⟩:=h
  obtain ⟨m,hn,hl⟩:=I.loc
  obtain ⟨u,r,l⟩:=hl i x v hN e hv
  have fin:EP X pins σ Q u s:=⟨v,H,I,r,h⟩
  rcases l with ⟨hk,hm⟩ | ⟨hk,c,hc,hcell⟩
  · exact wpAny_Name (wpAny_loadName_local I.ok.kind hk hn hm fin) hd
  · rcases hk with hk | hk
    · exact wpAny_Name (wpAny_loadName_cell I.ok.kind hk hc hcell fin) hd
    · exact wpAny_Name (wpAny_loadName_free I.ok.kind hk hc hcell fin hcd) hd
theorem pe_int {i j pos}:PE X (.Constant (.int i) j pos) (tC (.int i)):=fun _ _ _ H _ I h=>wpAny_Constant_int ⟨.int i,H,I.tok _,⟨_,rfl⟩,h⟩
theorem pe_bl {b j pos}:PE X (.Constant (.bool b) j pos) (tC (.bl b)):=fun _ _ _ H _ I h=>Constant_bool ⟨.bl b,H,I,rfl,h⟩
theorem pe_non {j pos}:PE X (.Constant .none j pos) (tC .non):=fun _ _ _ H _ I h=>Constant_none ⟨.non,H,I,rfl,h⟩
theorem pe_str {x j pos}:PE X (.Constant (.str x) j pos) (tC (.str x)):=fun _ _ _ H _ I h=>Calls.Constant_str ⟨.str x,H,I.tok _,⟨_,rfl⟩,h⟩
def Gl (X:Cx) (x:Str):Prop:=X.env.kindOf x=some .globalImplicit
theorem ld_glob {E:Value→Shared→Prop} {pins:List (Addr × Obj)} {s:Shared} {σ:St} {H:Hp} {x:Str} {u:Value} {pos:Pos} {Q:Value→Shared→Prop} (I:Inv X pins σ H s) (hg:Gl X x) (hm:X.mg x=some u) (h:Q u s)
    (hd:(x == ("__debug__" : Str))=false:=by decide):wpAny (model X.prog X.w) X.A (eval (.Name x pos) X.env) Q E s :=
  Calls.Name_function_global I.ok.kind hg (Calls.loadGlobal_global (by rw [I.ok.glob]; exact I.mod.glob.keeps I.bk) hm h) hd
theorem ld_blt {E:Value→Shared→Prop} {pins:List (Addr × Obj)} {s:Shared} {σ:St} {H:Hp} {x:Str} {u:Value} {pos:Pos} {Q:Value→Shared→Prop} (I:Inv X pins σ H s) (hg:Gl X x) (hm:X.mg x=none) (hv:bootBuiltins x=some u) (h:Q u s)
    (hn:x ≠ "__name__":=by decide) (hd:(x == ("__debug__" : Str))=false:=by decide):wpAny (model X.prog X.w) X.A (eval (.Name x pos) X.env) Q E s:=by
  obtain ⟨mb,h1,h2⟩:=I.mod.blt
  exact Calls.Name_function_global I.ok.kind hg (Calls.loadGlobal_builtin (by rw [I.ok.glob]; exact I.mod.glob.keeps I.bk) hm (by rw [I.ok.blt]; exact h1.keeps I.bk) ((h2 x hn).trans hv) h) hd
theorem pe_glob {x:Str} {v:V} {u:Value} {pos:Pos} (hg:Gl X x) (hm:X.mg x=some u) (r:RelV v u) (hd:(x == ("__debug__" : Str))=false:=by decide):PE X (.Name x pos) (tC v) :=
  fun _ _ _ H _ I h=>ld_glob I hg hm ⟨v,H,I,r,h⟩ hd
theorem pe_bltn {x:Str} {v:V} {u:Value} {pos:Pos} (hg:Gl X x) (hm:X.mg x=none) (hv:bootBuiltins x=some u) (r:RelV v u) (hn:x ≠ "__name__":=by decide) (hd:(x == ("__debug__" : Str))=false:=by decide):PE X (.Name x pos) (tC v) :=
  fun _ _ _ H _ I h=>ld_blt I hg hm hv ⟨v,H,I,r,h⟩ hn hd
variable {a b:Expr} {ta tb:TE} {pos:Pos}
def tB (t:TE):TT:=fun σ H Q=>t σ H fun x H1=>∃ c,x=.bl c∧Q c H1
theorem pt_val {e:Expr} {t:TE} (h:PE X e t) (he:∀ whole,isTrue e X.env whole=(do let v ← whole; standAt e.pos; holding [v] (truthy v)):=by intro _; rfl):PT X e (tB t):=by
  intro pins s σ H Q I hw
  refine isTrue_plain (thn (h pins s σ H _ I hw) fun v s1 ⟨x,H1,I1,r1,q1⟩=>?_) (he _)
  obtain ⟨d,rfl,q⟩:=q1
  cases r1
  exact wpAny_truthy_bool ⟨H1,I1,q⟩
variable {tA tB':TT} {rest:List Expr}
def tAnd (t u:TT):TT:=fun σ H Q=>t σ H fun c H1=>if c=true then u σ H1 Q else Q false H1
def tOr (t u:TT):TT:=fun σ H Q=>t σ H fun c H1=>if c=true then Q true H1 else u σ H1 Q
def tNot (t:TT):TT:=fun σ H Q=>t σ H fun c H1=>Q (!c) H1
theorem pw_and1 (ha:PT X a tA):PW X (.BoolOp .And [a] pos) tA:=by
  intro wh pins s σ H Q I h
  refine isTrue_and (thn (ha pins s σ H Q I h) fun c s1 e=>?_)
  cases c with
  | true=>exact isTrue_and_nil e
  | false=>exact e
theorem pw_or1 (ha:PT X a tA):PW X (.BoolOp .Or [a] pos) tA:=by
  intro wh pins s σ H Q I h
  refine isTrue_or (thn (ha pins s σ H Q I h) fun c s1 e=>?_)
  cases c with
  | false=>exact isTrue_or_nil e
  | true=>exact e
theorem pw_and (ha:PT X a tA) (hb:PW X (.BoolOp .And (b :: rest) pos) tB'):PW X (.BoolOp .And (a :: b :: rest) pos) (tAnd tA tB'):=by
  intro wh pins s σ H Q I h
  refine isTrue_and (thn (ha pins s σ H _ I h) fun c s1 ⟨H1,I1,q1⟩=>?_)
  cases c with
  | true=>exact hb wh pins s1 σ H1 Q I1 q1
  | false=>exact ⟨H1,I1,q1⟩
theorem pw_or (ha:PT X a tA) (hb:PW X (.BoolOp .Or (b :: rest) pos) tB'):PW X (.BoolOp .Or (a :: b :: rest) pos) (tOr tA tB'):=by
  intro wh pins s σ H Q I h
  refine isTrue_or (thn (ha pins s σ H _ I h) fun c s1 ⟨H1,I1,q1⟩=>?_)
  cases c with
  | true=>exact ⟨H1,I1,q1⟩
  | false=>exact hb wh pins s1 σ H1 Q I1 q1
theorem pt_not (ha:PT X a tA):PT X (.UnaryOp .Not a pos) (tNot tA):=by
  intro pins s σ H Q I h
  exact isTrue_not (ha pins s σ H (fun c H1=>Q (!c) H1) I h)
def tAndV (ta tb:TE):TE:=fun σ H Q=>ta σ H fun x H1=>∃ c,x=.bl c∧if c=true then tb σ H1 Q else Q (.bl false) H1
def tOrV (ta tb:TE):TE:=fun σ H Q=>ta σ H fun x H1=>∃ c,x=.bl c∧if c=true then Q (.bl true) H1 else tb σ H1 Q
def tNotV (ta:TE):TE:=fun σ H Q=>ta σ H fun x H1=>∃ c,x=.bl c∧Q (.bl (!c)) H1
theorem pe_one {op} {t:TE} (h:PE X a t):PE X (.BoolOp op [a] pos) t:=fun pins s σ H Q I hw=>BoolOp_one (h pins s σ H Q I hw)
theorem pe_and (ha:PE X a ta) (hb:PE X (.BoolOp .And (b :: rest) pos) tb):PE X (.BoolOp .And (a :: b :: rest) pos) (tAndV ta tb):=by
  intro pins s σ H Q I h
  refine BoolOp_and (thn (ha pins s σ H _ I h) fun v s1 ⟨x,H1,I1,r1,q1⟩=>?_)
  obtain ⟨c,rfl,q1⟩:=q1
  cases r1
  refine wpAny_truthy_bool ?_
  cases c with
  | true=>exact hb pins s1 σ H1 Q I1 q1
  | false=>exact ⟨.bl false,H1,I1,rfl,q1⟩
theorem pe_or (ha:PE X a ta) (hb:PE X (.BoolOp .Or (b :: rest) pos) tb):PE X (.BoolOp .Or (a :: b :: rest) pos) (tOrV ta tb):=by
  intro pins s σ H Q I h
  refine BoolOp_or (thn (ha pins s σ H _ I h) fun v s1 ⟨x,H1,I1,r1,q1⟩=>?_)
  obtain ⟨c,rfl,q1⟩:=q1
  cases r1
  refine wpAny_truthy_bool ?_
  cases c with
  | false=>exact hb pins s1 σ H1 Q I1 q1
  | true=>exact ⟨.bl true,H1,I1,rfl,q1⟩
theorem pe_not (ha:PE X a ta):PE X (.UnaryOp .Not a pos) (tNotV ta):=by
  intro pins s σ H Q I h
  refine UnaryOp_ (thn (ha pins s σ H _ I h) fun v s1 ⟨x,H1,I1,r1,q1⟩=>?_)
  obtain ⟨c,rfl,q1⟩:=q1
  cases r1
  exact not_of (wpAny_truthy_bool ⟨.bl (!c),H1,I1,rfl,q1⟩)
def tIf (t:TT) (ta tb:TE):TE:=fun σ H Q=>t σ H fun c H1=>if c=true then ta σ H1 Q else tb σ H1 Q
theorem pe_ifExp {c:Expr} (hc:PT X c tA) (ha:PE X a ta) (hb:PE X b tb):PE X (.IfExp c a b pos) (tIf tA ta tb):=by
  intro pins s σ H Q I h
  refine wpAny_IfExp (thn (hc pins s σ H _ I h) fun d s1 ⟨H1,I1,q1⟩=>?_)
  cases d with
  | true=>exact ha pins s1 σ H1 Q I1 q1
  | false=>exact hb pins s1 σ H1 Q I1 q1
end
end L2
namespace L2
open PySem PySem.Spec PyProof.Rows
def SqL (K:PySem.W.Frag) (H:Hp) (a:Addr) (xs:List V):Prop :=
  Rd H a (.lst xs) ∨
    ∃ (o:Obj) (its:Array Value) (n:Nat),K.lookup a=some o∧o.cls=.type "list"∧o.dict=none∧o.data=.seq its n∧its.size≤sizeLine∧Vals xs its.toList
def SqT (K:PySem.W.Frag) (H:Hp) (a:Addr) (xs:List V):Prop :=
  Rd H a (.tup xs) ∨
    ∃ (o:Obj) (its:Array Value) (n:Nat),K.lookup a=some o∧o.cls=.type "tuple"∧o.data=.seq its n∧its.size≤sizeLine∧Vals xs its.toList
def absV:Value→Option V
  | .none=>some .non
  | .bool b=>some (.bl b)
  | .int i _=>some (.int i)
  | .str x _=>some (.str x)
  | .bytes b _=>some (.byt b)
  | .float b _=>some (.flt b)
  | .ref a=>some (.ref a)
  | .type n=>some (.ty n)
  | _=>none
theorem RelV.abs {x:V} {u:Value} (r:RelV x u):absV u=some x:=by
  cases x with
  | non=>cases r; rfl
  | bl _=>cases r; rfl
  | int _=>obtain ⟨t,rfl⟩:=r; rfl
  | str _=>obtain ⟨t,rfl⟩:=r; rfl
  | byt _=>obtain ⟨t,rfl⟩:=r; rfl
  | flt _=>obtain ⟨t,rfl⟩:=r; rfl
  | ref _=>cases r; rfl
  | ty _=>cases r; rfl
theorem RelV.inj {x y:V} {u:Value} (r:RelV x u) (q:RelV y u):x=y:=Option.some.inj (r.abs.symm.trans q.abs)
theorem Vals.inj:∀ {xs ys:List V} {us:List Value},Vals xs us→Vals ys us→xs=ys
  | _,_,_,.nil,.nil=>rfl
  | _,_,_,.cons r t,.cons r' t'=>by rw [r.inj r',Vals.inj t t']
section
variable {X:Cx} {pins:List (Addr × Obj)} {σ:St} {H:Hp} {s:Shared} {a:Addr} {xs ys:List V}
theorem SqL.of {K:PySem.W.Frag} (h:H a=some (.lst xs)):SqL K H a xs:=.inl (.inl h)
theorem SqT.of {K:PySem.W.Frag} (h:H a=some (.tup xs)):SqT K H a xs:=.inl (.inl h)
theorem Inv.list (I:Inv X pins σ H s) (h:SqL X.K H a xs):∃ its:List Value,Vals xs its∧PlainL s.heap a its.toArray∧xs.length≤sizeLine:=by
  rcases h with h | ⟨o,its,n,hk,hc,hd,hs,hz,r⟩
  · obtain ⟨z,its,n,r,e⟩:=h.ok I.hok
    exact ⟨its,r,⟨_,n,e,rfl,rfl,rfl⟩,z⟩
  · refine ⟨its.toList,r,⟨o,n,I.kIn a o hk,hc,hd,by simpa using hs⟩,?_⟩
    have e:=r.length
    simp only [Array.length_toList] at e
    omega
theorem Inv.tuple (I:Inv X pins σ H s) (h:SqT X.K H a xs):∃ its:List Value,Vals xs its∧IsTup s.heap a its.toArray∧xs.length≤sizeLine:=by
  rcases h with h | ⟨o,its,n,hk,hc,hs,hz,r⟩
  · obtain ⟨z,its,r,p⟩:=h.ok I.hok
    exact ⟨its,r,p,z⟩
  · refine ⟨its.toList,r,⟨o,I.kIn a o hk,hc,n,by simpa using hs⟩,?_⟩
    have e:=r.length
    simp only [Array.length_toList] at e
    omega
theorem Inv.list_inj (I:Inv X pins σ H s) (h:SqL X.K H a xs) (h':SqL X.K H a ys):xs=ys:=by
  obtain ⟨its,r,⟨o,n,e,_,_,d⟩,_⟩:=I.list h
  obtain ⟨its',r',⟨o',n',e',_,_,d'⟩,_⟩:=I.list h'
  rw [e] at e'; cases e'
  rw [d] at d'
  injection d' with d1 _
  have:its=its':=by simpa using congrArg Array.toList d1
  subst this
  exact r.inj r'
theorem Inv.tuple_inj (I:Inv X pins σ H s) (h:SqT X.K H a xs) (h':SqT X.K H a ys):xs=ys:=by
  obtain ⟨its,r,⟨o,e,_,n,d⟩,_⟩:=I.tuple h
  obtain ⟨its',r',⟨o',e',_,n',d'⟩,_⟩:=I.tuple h'
  rw [e] at e'; cases e'
  rw [d] at d'
  injection d' with d1 _
  have:its=its':=by simpa using congrArg Array.toList d1
  subst this
  exact r.inj r'
end
abbrev Cx.wish (X:Cx) (E:Value→Shared→Prop):Cx:={ X with xe:=E }
abbrev Cx.nox (X:Cx):Cx:=X.wish fun _ _=>False
theorem Cx.Ok.wish {X:Cx} (ok:X.Ok) (E:Value→Shared→Prop):(X.wish E).Ok :=
  ⟨ok.mod,ok.kind,ok.glob,ok.blt,ok.above,ok.inj,ok.has,ok.cab,ok.hd,ok.frames,ok.stk,ok.exf,ok.bs,ok.bsz,ok.noex,ok.exfs,ok.funs,ok.frf⟩
theorem Cx.Ok.unwish {X:Cx} {E:Value→Shared→Prop} (ok:(X.wish E).Ok):X.Ok :=
  ⟨ok.mod,ok.kind,ok.glob,ok.blt,ok.above,ok.inj,ok.has,ok.cab,ok.hd,ok.frames,ok.stk,ok.exf,ok.bs,ok.bsz,ok.noex,ok.exfs,ok.funs,ok.frf⟩
section
variable {X:Cx} {pins:List (Addr × Obj)} {σ:St} {H:Hp} {s:Shared} {E:Value→Shared→Prop}
theorem Inv.wish (I:Inv X pins σ H s) (E:Value→Shared→Prop):Inv (X.wish E) pins σ H s:=⟨I.ok.wish E,I.os,I.bare,I.base,I.loc,I.cell,I.free,I.freeC,I.pin,I.hok,I.len⟩
theorem Inv.unwish (I:Inv (X.wish E) pins σ H s):Inv X pins σ H s:=⟨I.ok.unwish,I.os,I.bare,I.base,I.loc,I.cell,I.free,I.freeC,I.pin,I.hok,I.len⟩
theorem SP.unwish {D:Ends} {f:Flow} {s':Shared} (h:SP (X.wish E) pins D f s'):SP X pins D f s':=by
  cases f with
  | next=>obtain ⟨σ',H',I,q⟩:=h; exact ⟨σ',H',I.unwish,q⟩
  | brk=>obtain ⟨σ',H',I,q⟩:=h; exact ⟨σ',H',I.unwish,q⟩
  | cont=>obtain ⟨σ',H',I,q⟩:=h; exact ⟨σ',H',I.unwish,q⟩
  | ret u=>obtain ⟨v,σ',H',I,r,q⟩:=h; exact ⟨v,σ',H',I.unwish,r,q⟩
theorem PSs.nox {st:List Stmt} {t:TS} (h:PSs X.nox st t):PSs X st t:=fun pins s σ H D I hw =>
  wpAny_mono (h pins s σ H D (I.wish _) hw) (fun _ _ q=>q.unwish) fun _ _ z=>False.elim z
end
section
variable {X:Cx} {st:Stmt} {rest:List Stmt} {t u:TS} {e:Expr} {te:TE} {pos:Pos}
def tNext:TS:=fun D σ H=>D.nx σ H
def tSeq (t u:TS):TS:=fun D σ H=>t { D with nx:=u D } σ H
theorem pss_nil:PSs X [] tNext:=fun _ _ σ H _ I h=>wpAny_execs_nil ⟨σ,H,I,h⟩
theorem pss_cons (h1:PS X st t) (h2:PSs X rest u):PSs X (st :: rest) (tSeq t u):=by
  intro pins s σ H D I h
  refine wpAny_execs_cons (thn (h1 pins s σ H { D with nx:=u D } I h) fun f s1 q=>?_)
  cases f with
  | next =>
    obtain ⟨σ',H',I',q⟩:=q
    exact h2 pins s1 σ' H' D I' q
  | ret v=>exact q
  | brk=>exact q
  | cont=>exact q
theorem pss_one (h1:PS X st t):PSs X [st] t:=by
  intro pins s σ H D I h
  refine wpAny_execs_cons (thn (h1 pins s σ H D I h) fun f s1 q=>?_)
  cases f with
  | next=>exact wpAny_execs_nil q
  | ret v=>exact q
  | brk=>exact q
  | cont=>exact q
theorem Inv.quiet {pins:List (Addr × Obj)} {σ:St} {H:Hp} {s:Shared} (I:Inv X pins σ H s):interactive X.env=false:=by simp [interactive,I.ok.kind]
def tDrop (te:TE):TS:=fun D σ H=>te σ H fun _ H1=>D.nx σ H1
theorem ps_expr (he:PE X e te) (hs:swapsWith e none pos.line X.env=pure false:=by rfl):PS X (.Expr e pos) (tDrop te):=by
  intro pins s σ H D I h
  exact wpAny_Expr_any (thn (he pins s σ H _ I h) fun v s1 ⟨x,H1,I1,r1,q1⟩=>⟨σ,H1,I1,q1⟩) I.quiet hs
def tRet (te:TE):TS:=fun D σ H=>te σ H D.rt
theorem ps_ret (he:PE X e te):PS X (.Return (some e) pos) (tRet te):=by
  intro pins s σ H D I h
  exact wpAny_Return_some (thn (he pins s σ H _ I h) fun v s1 ⟨x,H1,I1,r1,q1⟩=>⟨x,σ,H1,I1,r1,q1⟩)
def tIfS (c:TT) (t u:TS):TS:=fun D σ H=>c σ H fun b H1=>if b=true then t D σ H1 else u D σ H1
theorem ps_if {c:Expr} {a b:List Stmt} {tc:TT} (hc:PT X c tc) (ha:PSs X a t) (hb:PSs X b u):PS X (.If c a b pos) (tIfS tc t u):=by
  intro pins s σ H D I h
  refine wpAny_If (thn (hc pins s σ H _ I h) fun d s1 ⟨H1,I1,q1⟩=>?_)
  cases d with
  | true=>exact ha pins s1 σ H1 D I1 q1
  | false=>exact hb pins s1 σ H1 D I1 q1
end
abbrev TG:=V→St→Hp→(St→Hp→Prop)→Prop
abbrev TGs:=List V→St→Hp→(St→Hp→Prop)→Prop
def PG (X:Cx) (target:Expr) (t:TG):Prop :=
  ∀ (pins:List (Addr × Obj)) (s:Shared) (σ:St) (H:Hp) (v:V) (u:Value) (Q:St→Hp→Prop),Inv X pins σ H s→RelV v u→t v σ H Q →
    wpAny (model X.prog X.w) X.A (assign target X.env u) (fun _ s'=>∃ σ' H',Inv X pins σ' H' s'∧Q σ' H') X.xe s
def PGs (X:Cx) (ts:List Expr) (t:TGs):Prop :=
  ∀ (pins:List (Addr × Obj)) (s:Shared) (σ:St) (H:Hp) (vs:List V) (us:List Value) (Q:St→Hp→Prop),Inv X pins σ H s→Vals vs us→t vs σ H Q →
    wpAny (model X.prog X.w) X.A (assignInOrder ((assignEach ts X.env).map (·.2)) us) (fun _ s'=>∃ σ' H',Inv X pins σ' H' s'∧Q σ' H') X.xe s
section
variable {X:Cx} {pos:Pos}
def gName (i:Nat):TG:=fun v σ H Q=>Q (σ.set i (some v)) H
theorem pg_name {i:Nat} {x:Str} (hN:X.N.Nodup) (hi:X.N[i]?=some x) (hx:Loc X.env.scope x) (hf:X.fn x=true∨X.env.scope.names.lookup x=some .local:=by first | exact .inl rfl | exact .inr rfl | assumption):PG X (.Name x pos) (gName i):=by
  intro pins s σ H v u Q I r h
  exact wpAny_assign_Name (store_ok I hN hi hx r (fun s' I'=>⟨_,H,I',h⟩) hf)
def gNil:TGs:=fun vs σ H Q=>vs=[]∧Q σ H
def gCons (t:TG) (u:TGs):TGs:=fun vs σ H Q=>∃ v r,vs=v :: r∧t v σ H fun σ' H'=>u r σ' H' Q
theorem pgs_nil:PGs X [] gNil:=by
  intro pins s σ H vs us Q I r h
  obtain ⟨e,h⟩:=h
  subst e
  cases r
  exact assignInOrder_nil ⟨σ,H,I,h⟩
theorem pgs_cons {e:Expr} {es:List Expr} {t:TG} {u:TGs} (h1:PG X e t) (h2:PGs X es u)
    (hs:(assignEach (e :: es) X.env).map (·.2)=assign e X.env :: (assignEach es X.env).map (·.2):=by rfl):PGs X (e :: es) (gCons t u):=by
  intro pins s σ H vs us Q I r h
  obtain ⟨v,vr,e1,h⟩:=h
  subst e1
  cases r with
  | cons r rr =>
    rw [hs]
    refine assignInOrder_cons (thn (h1 pins s σ H _ _ _ I r h) fun _ s1 ⟨σ1,H1,I1,q1⟩=>?_)
    exact h2 pins s1 σ1 H1 _ _ Q I1 rr q1
def gTup (K:PySem.W.Frag) (n:Nat) (t:TGs):TG:=fun v σ H Q=>∃ a xs,v=.ref a∧SqT K H a xs∧xs.length=n∧t xs σ H Q
theorem pg_tup {es:List Expr} {k:Nat} {t:TGs} {n:Nat} (hc:X.calm=true) (h:PGs X es t)
    (hn:(assignEach es X.env).length=n:=by rfl) (hst:(assignEach es X.env).findIdx? (·.1)=none:=by rfl):PG X (.Tuple es k pos) (gTup X.K n t):=by
  intro pins s σ H v u Q I r hw
  obtain ⟨a,xs,e1,hq,hl,hw⟩:=hw
  subst e1
  cases r
  obtain ⟨its,rv,ht,hz⟩:=I.tuple hq
  refine assign_Tuple_tuple (I.ok.hd hc) ht (by simp [hn,← hl,rv.length]) hst fun h' hx=>?_
  have I1:Inv X pins σ H { s with heap:=h' }:=I.kept (t':=s.toks) fun b o e=>hx b o (Nat.ne_of_lt (Heap.lt_size e)) e
  exact h pins _ σ H xs _ Q I1 (by simpa using rv) hw
def tAsg (te:TE) (g:TG):TS:=fun D σ H=>te σ H fun x H1=>g x σ H1 D.nx
theorem ps_asg {tg e:Expr} {te:TE} {g:TG} (he:PE X e te) (hg:PG X tg g) (hs:swapsWithSole [tg] e pos.line X.env=pure false:=by rfl) (hw:swappedStores [tg] e X.env=pure none:=by rfl)
    (h1:(assignEach [tg] X.env).map (·.2)=[assign tg X.env]:=by rfl):PS X (.Assign [tg] e pos) (tAsg te g):=by
  intro pins s σ H D I h
  refine wpAny_Assign_stores (thn (he pins s σ H _ I h) fun v s1 ⟨x,H1,I1,r1,q1⟩=>?_) hs hw
  rw [h1]
  exact thn (hg pins s1 σ H1 x v _ I1 r1 q1) fun _ s2 q=>q
theorem ps_set {i:Nat} {x:Str} {e:Expr} {te:TE} {pos':Pos} (hN:X.N.Nodup) (hi:X.N[i]?=some x) (hx:Loc X.env.scope x) (he:PE X e te) (hs:swapsWith e (some (.Name x pos')) pos.line X.env=pure false:=by rfl) (hf:X.fn x=true∨X.env.scope.names.lookup x=some .local:=by first | exact .inl rfl | exact .inr rfl | assumption) :
    PS X (.Assign [.Name x pos'] e pos) (tAsg te (gName i)):=by
  intro pins s σ H D I h
  refine wpAny_Assign_Name (thn (he pins s σ H _ I h) fun v s1 ⟨y,H1,I1,r1,q1⟩=>?_) hs
  exact store_ok I1 hN hi hx r1 (fun s2 I2=>⟨_,H1,I2,q1⟩) hf
end
section
variable {X:Cx} {pos:Pos}
end
structure It where
  go:Nat→Hp→Prop
  yld:Nat→Hp→V→Hp→Prop
  stop:Nat→Hp→Prop
def FpOk (X:Cx) (pins:List (Addr × Obj)) (H:Hp) (b:Addr):Prop :=
  H b=none∧b≠X.env.locals∧b ∉ X.fs∧(b∈X.ex∨X.s₀.heap.objs.size≤b)∧(∀ x c,X.env.cells.lookup x=some c→c≠b)∧∀ p∈X.pn++pins,p.1≠b
theorem Inv.fpOk {X:Cx} {pins:List (Addr × Obj)} {σ:St} {H H':Hp} {s:Shared} {b:Addr} (I:Inv X pins σ H s) (hb:s.heap.objs.size≤b) (hn:H' b=none):FpOk X pins H' b:=by
  refine ⟨hn,Nat.ne_of_gt (Nat.lt_of_lt_of_le I.lt hb),I.nofs hb,.inr (Nat.le_trans I.sz hb),fun x c e z=>?_,fun p hp z=>?_⟩
  · obtain ⟨v,q⟩:=I.cell x c e
    exact absurd (Nat.lt_of_lt_of_le q.lt (by rw [z]; exact hb)) (Nat.lt_irrefl _)
  · exact absurd (Nat.lt_of_lt_of_le (Heap.lt_size (I.pin p hp).1) (by rw [z]; exact hb)) (Nat.lt_irrefl _)
structure Turn (P:Program) (w:World) (K:PySem.W.Frag) (tg:Expr) (J:It) (fp:List Addr) (it:Addr) (tn:Nat→Heap→Prop):Prop where
  mem:it∈fp
  obj:∀ i h,tn i h→∀ b∈fp,∃ o,h.get? b=some o∧∀ v,o.data≠.cell v
  keep:∀ i h h',tn i h→(∀ b∈fp,∀ o,h.get? b=some o→h'.get? b=some o)→tn i h'
  item:∀ (X:Cx),X.prog=P→X.w=w→X.K=K→X.calm=true→∀ (i:Nat) (pins:List (Addr × Obj)) (s:Shared) (σ:St) (H:Hp) (E:Value→Shared→Prop),Inv X pins σ H s→(∀ b∈fp,FpOk X pins H b)→tn i s.heap→J.go i H →
    wpAny (model P w) X.A (pyNext (.ref it)) (fun r s1=>∃ u,r=some u ∧
      wpAny (model P w) X.A (letOwnedTupleGo tg (.ref it) u) (fun _ s2=>∃ x H',Inv X pins σ H' s2∧RelV x u∧J.yld i H x H'∧tn (i+1) s2.heap∧∀ b∈fp,H' b=none) E s1) E s
  done:∀ (X:Cx),X.prog=P→X.w=w→X.K=K→X.calm=true→∀ (i:Nat) (pins:List (Addr × Obj)) (s:Shared) (σ:St) (H:Hp) (E:Value→Shared→Prop),Inv X pins σ H s→(∀ b∈fp,FpOk X pins H b)→tn i s.heap→J.stop i H →
    wpAny (model P w) X.A (pyNext (.ref it)) (fun r s1=>r=none∧Inv X pins σ H s1) E s
  self:∀ (A:Around) (i:Nat) (s:Shared) (Q:Value→Shared→Prop) (E:Value→Shared→Prop),tn i s.heap→Q (.ref it) s→wpAny (model P w) A (pyIter (.ref it)) Q E s
abbrev TI:=St→Hp→(It→Hp→Prop)→Prop
def PIE (X:Cx) (pins:List (Addr × Obj)) (σ:St) (tg:Expr) (R:It→Hp→Prop) (itv:Value) (s2:Shared):Prop :=
  ∃ (it:Addr) (fp:List Addr) (tn:Nat→Heap→Prop) (J:It) (H':Hp),itv=.ref it∧Inv X pins σ H' s2∧Turn X.prog X.w X.K tg J fp it tn∧tn 0 s2.heap∧(∀ b∈fp,FpOk X pins H' b)∧R J H'
def PI (X:Cx) (tg iter:Expr) (wi:TI):Prop :=
  ∀ (pins:List (Addr × Obj)) (s:Shared) (σ:St) (H:Hp) (R:It→Hp→Prop),Inv X pins σ H s→wi σ H R →
    wpAny (model X.prog X.w) X.A (eval iter X.env) (fun v s1=>wpAny (model X.prog X.w) X.A (pyIter v) (PIE X pins σ tg R) X.xe s1) X.xe s
theorem go_of {M:Model} {A:Around} {E:Value→Shared→Prop} {s:Shared} {tg:Expr} {it:Addr} {u:Value} {o:Obj} {n:String} {vs:Array Value} {Q:Unit→Shared→Prop} (ho:s.heap.get? it=some o) (hc:o.cls=.type n) (hd:o.data=.fields vs)
    (hn:["enumerate", "zip", "dict_itemiterator", "dict_reverseitemiterator", "odict_iterator", "itertools.zip_longest", "itertools.pairwise"].contains n=false) (hQ:Q () s):wpAny M A (letOwnedTupleGo tg (.ref it) u) Q E s:=by
  unfold letOwnedTupleGo
  cases tg <;> first
    | exact wpAny_pure hQ
    | (cases u <;> first
        | exact wpAny_pure hQ
        | (refine wpAny_bind (wpAny_load ho ?_)
           rw [hc,hd]
           show wpAny M A (if (["enumerate", "zip", "dict_itemiterator", "dict_reverseitemiterator", "odict_iterator", "itertools.zip_longest", "itertools.pairwise"].contains n && vs[0]? == some (rawInt _))=true then _ else _) Q E s
           rw [if_neg (by intro h; rw [hn,Bool.false_and] at h; cases h)]
           exact wpAny_pure hQ))
def Itl (K:PySem.W.Frag) (a:Addr):It :=
  ⟨fun i H=>∃ xs x,SqL K H a xs∧xs[i]?=some x,fun i H x H'=>H'=H∧∀ xs,SqL K H a xs→xs[i]?=some x,fun i H=>∃ xs,SqL K H a xs∧xs.length≤i⟩
def Itt (K:PySem.W.Frag) (a:Addr):It :=
  ⟨fun i H=>∃ xs x,SqT K H a xs∧xs[i]?=some x,fun i H x H'=>H'=H∧∀ xs,SqT K H a xs→xs[i]?=some x,fun i H=>∃ xs,SqT K H a xs∧xs.length≤i⟩
def Itr (lo:Int) (n:Nat):It:=⟨fun i _=>i < n,fun i H x H'=>H'=H∧x=.int (lo+i),fun i _=>n≤i⟩
theorem turn_list {P:Program} {w:World} {K:PySem.W.Frag} {tg:Expr} (a it:Addr):Turn P w K tg (Itl K a) [it] it (fun i h=>h.IsListIter it a i) where
  mem:=by simp
  obj:=fun i h st b hb=>by
    have e:b=it:=by simpa using hb
    subst e
    obtain ⟨o,e,c,d⟩:=st
    exact ⟨o,e,fun v z=>by rw [d] at z; cases z⟩
  keep:=fun i h h' st k=>st.at fun o e=>k it (by simp) o e
  item:=by
    intro X hP hw hK hc i pins s σ H E I hf st hg
    subst hP hw hK
    obtain ⟨xs,x,hq,hx⟩:=hg
    obtain ⟨its,rv,p,hz⟩:=I.list hq
    obtain ⟨u,hu,ru⟩:=rv.get hx
    obtain ⟨f0,f1,f2,f3,f4,f5⟩:=hf it (by simp)
    refine wpAny_pyNext_list_item st p.isList (x:=u) (by simpa using hu) fun h' st' sb=>?_
    have I1:Inv X pins σ H { s with heap:=h' }:=I.turned (t':=s.toks) (fun b o hb e=>(sb.2 b hb).trans e) f0 f1 f3 f4 f5
    obtain ⟨o,e,c,d⟩:=id st'
    exact ⟨u,rfl,go_of (s:={ s with heap:=h' }) e c d (by decide) ⟨x,H,I1,ru,⟨rfl,fun ys hy=>by rw [I.list_inj hy hq]; exact hx⟩,st',fun b hb=>(hf b hb).1⟩⟩
  done:=by
    intro X hP hw hK hc i pins s σ H E I hf st hg
    subst hP hw hK
    obtain ⟨xs,hq,hx⟩:=hg
    obtain ⟨its,rv,p,hz⟩:=I.list hq
    obtain ⟨f0,f1,f2,f3,f4,f5⟩:=hf it (by simp)
    have hl:=rv.length
    exact wpAny_pyNext_list_end (I.ok.hd hc) st p.isList (by simp; omega) fun h' eb=>⟨rfl,I.turned (t':=s.toks) (fun b o hb e=>eb b o hb e) f0 f1 f3 f4 f5⟩
  self:=fun _ _ _ _ _ st h=>wpAny_pyIter_listiter st h
theorem turn_tuple {P:Program} {w:World} {K:PySem.W.Frag} {tg:Expr} (a it:Addr):Turn P w K tg (Itt K a) [it] it (fun i h=>h.IsTupleIter it a i) where
  mem:=by simp
  obj:=fun i h st b hb=>by
    have e:b=it:=by simpa using hb
    subst e
    obtain ⟨o,e,c,d⟩:=st
    exact ⟨o,e,fun v z=>by rw [d] at z; cases z⟩
  keep:=fun i h h' st k=>st.at fun o e=>k it (by simp) o e
  item:=by
    intro X hP hw hK hc i pins s σ H E I hf st hg
    subst hP hw hK
    obtain ⟨xs,x,hq,hx⟩:=hg
    obtain ⟨its,rv,p,hz⟩:=I.tuple hq
    obtain ⟨u,hu,ru⟩:=rv.get hx
    obtain ⟨f0,f1,f2,f3,f4,f5⟩:=hf it (by simp)
    refine wpAny_pyNext_tuple_item st (show s.heap.IsTuple a its.toArray from p) (x:=u) (by simpa using hu) fun h' st' sb=>?_
    have I1:Inv X pins σ H { s with heap:=h' }:=I.turned (t':=s.toks) (fun b o hb e=>(sb.2 b hb).trans e) f0 f1 f3 f4 f5
    obtain ⟨o,e,c,d⟩:=id st'
    exact ⟨u,rfl,go_of (s:={ s with heap:=h' }) e c d (by decide) ⟨x,H,I1,ru,⟨rfl,fun ys hy=>by rw [I.tuple_inj hy hq]; exact hx⟩,st',fun b hb=>(hf b hb).1⟩⟩
  done:=by
    intro X hP hw hK hc i pins s σ H E I hf st hg
    subst hP hw hK
    obtain ⟨xs,hq,hx⟩:=hg
    obtain ⟨its,rv,p,hz⟩:=I.tuple hq
    obtain ⟨f0,f1,f2,f3,f4,f5⟩:=hf it (by simp)
    have hl:=rv.length
    exact wpAny_pyNext_tuple_end (I.ok.hd hc) st (show s.heap.IsTuple a its.toArray from p) (by simp; omega) fun h' eb=>⟨rfl,I.turned (t':=s.toks) (fun b o hb e=>eb b o hb e) f0 f1 f3 f4 f5⟩
  self:=fun _ _ _ _ _ st h=>wpAny_pyIter_tupleiter st h
theorem turn_range {P:Program} {w:World} {K:PySem.W.Frag} {tg:Expr} (it:Addr) (lo:Int) (n:Nat):Turn P w K tg (Itr lo n) [it] it (fun i h=>IsRangeIter h it (lo+(i:Nat) * 1) ((n:Int) - (i:Nat)) 1) where
  mem:=by simp
  obj:=fun i h st b hb=>by
    have e:b=it:=by simpa using hb
    subst e
    exact ⟨_,st,fun v z=>by
      have z':Data.fields _=Data.cell v:=z
      cases z'⟩
  keep:=fun i h h' st k=>k it (by simp) _ st
  item:=by
    intro X hP hw hK hc i pins s σ H E I hf st hg
    subst hP hw hK
    obtain ⟨f0,f1,f2,f3,f4,f5⟩:=hf it (by simp)
    have W:=Walks.range (prog:=X.prog) (w:=X.w) (I.ok.hd hc) it lo 1 n
    refine W.item i s _ _ hg st fun v h' tk hv st' kk=>?_
    obtain ⟨t,rfl⟩:=hv
    have I1:Inv X pins σ H { s with heap:=h',toks:=tk }:=I.turned (fun b o hb e=>kk b o (by simpa using hb) e) f0 f1 f3 f4 f5
    refine ⟨_,rfl,go_of (s:={ s with heap:=h',toks:=tk }) (n:="range_iterator") st' rfl rfl (by decide) ⟨.int (lo+i),H,I1,⟨t,?_⟩,⟨rfl,rfl⟩,st',fun b hb=>(hf b hb).1⟩⟩
    rw [Int.mul_one]
  done:=by
    intro X hP hw hK hc i pins s σ H E I hf st hg
    subst hP hw hK
    obtain ⟨f0,f1,f2,f3,f4,f5⟩:=hf it (by simp)
    exact wpAny_pyNext_range_end (I.ok.hd hc) st (by have:n≤i:=hg; omega) fun h' eb=>⟨rfl,I.turned (t':=s.toks) (fun b o hb e=>eb b o hb e) f0 f1 f3 f4 f5⟩
  self:=fun _ _ _ _ _ st h=>wpAny_pyIter_rangeiter st h
end L2
namespace L2
open PySem PySem.Spec PyProof.Rows
section
variable {X:Cx} {tg:Expr}
def iList (K:PySem.W.Frag) (tl:TE):TI:=fun σ H R=>tl σ H fun x H1=>∃ a,x=.ref a∧(∃ xs,SqL K H1 a xs)∧R (Itl K a) H1
def iTup (K:PySem.W.Frag) (tl:TE):TI:=fun σ H R=>tl σ H fun x H1=>∃ a,x=.ref a∧(∃ xs,SqT K H1 a xs)∧R (Itt K a) H1
theorem pi_list {l:Expr} {tl:TE} (hl:PE X l tl):PI X tg l (iList X.K tl):=by
  intro pins s σ H R I h
  refine thn (hl pins s σ H _ I h) fun v s1 ⟨x,H1,I1,r1,q1⟩=>?_
  obtain ⟨a,e,⟨xs,hq⟩,q⟩:=q1
  subst e
  cases r1
  obtain ⟨its,rv,p,hz⟩:=I1.list hq
  refine wpAny_pyIter_list p.isList ?_
  refine ⟨s1.heap.objs.size,[s1.heap.objs.size],_,_,H1,rfl,I1.kept (t':=s1.toks) fun b o e=>Heap.get?_push_of_some _ e,turn_list a _,⟨_,Heap.get?_push_size _ rfl,rfl,rfl⟩,fun b hb=>?_,q⟩
  have e:b=s1.heap.objs.size:=by simpa using hb
  subst e
  exact I1.fpOk (Nat.le_refl _) (I1.hok.fresh (Nat.le_refl _))
theorem pi_tup {l:Expr} {tl:TE} (hl:PE X l tl):PI X tg l (iTup X.K tl):=by
  intro pins s σ H R I h
  refine thn (hl pins s σ H _ I h) fun v s1 ⟨x,H1,I1,r1,q1⟩=>?_
  obtain ⟨a,e,⟨xs,hq⟩,q⟩:=q1
  subst e
  cases r1
  obtain ⟨its,rv,p,hz⟩:=I1.tuple hq
  refine wpAny_pyIter_tuple (show s1.heap.IsTuple a its.toArray from p) ?_
  refine ⟨s1.heap.objs.size,[s1.heap.objs.size],_,_,H1,rfl,I1.kept (t':=s1.toks) fun b o e=>Heap.get?_push_of_some _ e,turn_tuple a _,⟨_,Heap.get?_push_size _ rfl,rfl,rfl⟩,fun b hb=>?_,q⟩
  have e:b=s1.heap.objs.size:=by simpa using hb
  subst e
  exact I1.fpOk (Nat.le_refl _) (I1.hok.fresh (Nat.le_refl _))
theorem range_it {pins:List (Addr × Obj)} {σ:St} {H:Hp} {s:Shared} {R:It→Hp→Prop} {E:Value→Shared→Prop} {lo hi:Int} {t u v:Tok} {tk:Nat} (I:Inv X pins σ H s) (h1:-(2 ^ 62)≤lo) (h2:lo < 2 ^ 62) (h3:-(2 ^ 62)≤hi) (h4:hi < 2 ^ 62)
    (q:R (Itr lo (hi - lo).toNat) H):wpAny (model X.prog X.w) X.A (pyIter (.ref s.heap.objs.size)) (PIE X pins σ tg R) E { s with heap:=s.heap.push { cls:=.type "range",data:=.fields #[.int lo t,.int hi u,.int 1 v] },toks:=tk }:=by
  refine wpAny_pyIter_range (IsRange.new ..) (small_one h1 h2 h3 h4) ?_
  have I1:Inv X pins σ H { s with heap:=s.heap.push { cls:=.type "range",data:=.fields #[.int lo t,.int hi u,.int 1 v] },toks:=tk }:=I.kept fun b o e=>Heap.get?_push_of_some _ e
  refine ⟨(s.heap.push { cls:=.type "range",data:=.fields #[.int lo t,.int hi u,.int 1 v] }).objs.size,[(s.heap.push { cls:=.type "range",data:=.fields #[.int lo t,.int hi u,.int 1 v] }).objs.size],_,_,H,rfl,
    I1.kept (t':=tk) fun b o e=>Heap.get?_push_of_some _ e,turn_range _ lo (hi - lo).toNat,?_,fun b hb=>?_,q⟩
  · have e1:lo+((0:Nat):Int) * 1=lo:=by simp
    have e2:(((hi - lo).toNat:Nat):Int) - ((0:Nat):Int)=Builtin.Range.rangeSize lo hi 1:=by rw [rangeSize_one]; split <;> omega
    show IsRangeIter _ _ (lo+((0:Nat):Int) * 1) ((((hi - lo).toNat:Nat):Int) - ((0:Nat):Int)) 1
    rw [e1,e2]
    exact Heap.get?_push_size _ rfl
  · have e:b=(s.heap.push { cls:=.type "range",data:=.fields #[.int lo t,.int hi u,.int 1 v] }).objs.size:=by simpa using hb
    subst e
    exact I1.fpOk (Nat.le_refl _) (I1.hok.fresh (Nat.le_refl _))
def iRng1 (ta:TA):TI:=fun σ H R=>ta σ H fun vs H1=>∃ j:Int,vs=[.int j]∧-(2 ^ 62)≤j∧j < 2 ^ 62∧R (Itr 0 j.toNat) H1
theorem pi_range1 {a:Expr} {ta:TA} {p pos:Pos} (hg:Gl X "range") (hm:X.mg "range" = none) (ha:PA X [a] ta) (hs:starEach [a] X.env=[(false,eval a X.env)]:=by rfl):PI X tg (.Call (.Name "range" p) [a] [] pos) (iRng1 ta):=by
  intro pins s σ H R I h
  refine Call_ (ld_blt I hg hm boot_range (PyProof.Rows.callWith_type1 (thn (ha pos pins s σ H _ I h) fun us s1 ⟨vs,H1,I1,r1,q1⟩=>?_) hs rfl))
  obtain ⟨j,e,q1,q2,q⟩:=q1
  subst e
  cases r1 with
  | cons r rr =>
    cases rr
    obtain ⟨t,rfl⟩:=r
    exact call_range_1 (range_it I1 (by omega) (by omega) q1 q2 (by simpa using q))
def tFor (wi:TI) (g:TG) (tb:TS):TS:=fun D σ H=>wi σ H fun J H1=>∃ W:Nat→Nat→St→Hp→Prop,(∃ m,W 0 m σ H1)∧∀ i m σ H,W i m σ H →
  (J.stop i H∧D.nx σ H)∨(J.go i H∧∃ N:St→Hp→Prop,(∀ σ' H',N σ' H'→∃ m',m' < m∧W (i+1) m' σ' H')∧∀ x H',J.yld i H x H'→g x σ H' fun σ2 H2=>tb { D with nx:=N,ct:=N,bk:=D.nx } σ2 H2)
def pinsAt (fp:List Addr) (h:Heap):List (Addr × Obj):=fp.filterMap fun b=>(h.get? b).map fun o=>(b,o)
theorem mem_pinsAt {fp:List Addr} {h:Heap} {b:Addr} {o:Obj} (hb:b∈fp) (e:h.get? b=some o):(b,o)∈pinsAt fp h:=List.mem_filterMap.mpr ⟨b,hb,by rw [e]; rfl⟩
theorem of_pinsAt {fp:List Addr} {h:Heap} {p:Addr × Obj} (hp:p∈pinsAt fp h):p.1∈fp∧h.get? p.1=some p.2:=by
  obtain ⟨b,hb,e⟩:=List.mem_filterMap.mp hp
  cases q:h.get? b with
  | none=>rw [q] at e; cases e
  | some o =>
    rw [q] at e
    have e':(b,o)=p:=Option.some.inj e
    subst e'
    exact ⟨hb,q⟩
theorem Inv.pinned {pins:List (Addr × Obj)} {σ:St} {H:Hp} {s:Shared} {fp:List Addr} (I:Inv X pins σ H s) (hf:∀ b∈fp,FpOk X pins H b) (ho:∀ b∈fp,∃ o,s.heap.get? b=some o∧∀ v,o.data≠.cell v):Inv X (pins++pinsAt fp s.heap) σ H s :=
  I.pins_of fun p hp=>(List.mem_append.mp hp).elim (fun z=>I.pin p (List.mem_append_right _ z)) fun z=>by
    obtain ⟨hb,e⟩:=of_pinsAt z
    obtain ⟨f0,f1,f2,_⟩:=hf p.1 hb
    obtain ⟨o,e',d⟩:=ho p.1 hb
    rw [e] at e'; cases e'
    exact ⟨e,f0,f1,f2,d⟩
theorem Inv.unpinned {pins pl:List (Addr × Obj)} {σ:St} {H:Hp} {s:Shared} (I:Inv X (pins++pl) σ H s):Inv X pins σ H s:=I.pins_of fun p hp=>I.pin p (List.mem_append_right _ (List.mem_append_left _ hp))
theorem ps_for {iter:Expr} {body:List Stmt} {wi:TI} {g:TG} {tb:TS} {pos:Pos} (hp:PassesOwn (model X.prog X.w) X.A X.env X.xe) (hc:X.calm=true) (hi:PI X tg iter wi) (hg:PG X tg g) (hb:PSs X body tb)
    (hs:∀ x,foldedSetIterable iter X.env x=pure x:=by intro _; rfl):PS X (.For tg iter body [] pos) (tFor wi g tb):=by
  intro pins s σ H D I h
  refine wpAny_For (thn (hi pins s σ H _ I h) fun v s1 h1=>thn h1 fun itv s2 h2=>?_) hs
  obtain ⟨it,fp,tn,J,H2,e,I2,T,st2,f2,W,⟨m0,w0⟩,turn⟩:=h2
  subst e
  have stat:∀ {H':Hp},(∀ b∈fp,H' b=none)→∀ b∈fp,FpOk X pins H' b:=fun hn b hb=>⟨hn b hb,(f2 b hb).2⟩
  refine codeAny_forLoop_any (fun n s'=>∃ i σ' H',Inv X pins σ' H' s'∧tn i s'.heap∧(∀ b∈fp,H' b=none)∧W i n σ' H') ?_ m0 ⟨0,σ,H2,I2,st2,fun b hb=>(f2 b hb).1,w0⟩
  rintro n s3 ⟨i,σ3,H3,I3,st3,fr3,w3⟩
  rcases turn i n σ3 H3 w3 with ⟨stop,qn⟩ | ⟨go,N,hN,step⟩
  · refine wpAny_passesOwn hp (thn (T.done X rfl rfl rfl hc i pins s3 σ3 H3 X.xe I3 (stat fr3) st3 stop) fun r s4 ⟨hr,I4⟩=>?_)
    subst hr
    exact wpAny_execs_nil ⟨σ3,H3,I4,qn⟩
  · refine wpAny_passesOwn hp (thn (T.item X rfl rfl rfl hc i pins s3 σ3 H3 X.xe I3 (stat fr3) st3 go) fun r s4 ⟨u,hr,h4⟩=>?_)
    subst hr
    refine wpAny_passesOwn hp (thn h4 fun _ s5 ⟨x,H5,I5,r5,y5,st5,fr5⟩=>?_)
    have I5':=I5.pinned (stat fr5) (T.obj _ _ st5)
    refine wpAny_passesOwn hp (thn (hg _ s5 σ3 H5 x u _ I5' r5 (step x H5 y5)) fun _ s6 ⟨σ6,H6,I6,q6⟩=>?_)
    refine wpAny_passesOwn hp (thn (hb _ s6 σ6 H6 _ I6 q6) fun f s7 q7=>?_)
    have again:∀ {σ7:St} {H7:Hp},Inv X (pins++pinsAt fp s5.heap) σ7 H7 s7→N σ7 H7→∃ m,m < n∧∃ i σ' H',Inv X pins σ' H' s7∧tn i s7.heap∧(∀ b∈fp,H' b=none)∧W i m σ' H':=fun {σ7 H7} I7 n7=>by
      obtain ⟨m',hm,w7⟩:=hN σ7 H7 n7
      refine ⟨m',hm,i+1,σ7,H7,I7.unpinned,T.keep _ _ _ st5 fun b hb o e=>(I7.pin (b,o) (List.mem_append_right _ (List.mem_append_right _ (mem_pinsAt hb e)))).1,fun b hb=>?_,w7⟩
      obtain ⟨o,e,d⟩:=T.obj _ _ st5 b hb
      exact (I7.pin (b,o) (List.mem_append_right _ (List.mem_append_right _ (mem_pinsAt hb e)))).2.1
    cases f with
    | next=>obtain ⟨σ7,H7,I7,n7⟩:=q7; exact again I7 n7
    | cont=>obtain ⟨σ7,H7,I7,n7⟩:=q7; exact again I7 n7
    | brk=>obtain ⟨σ7,H7,I7,q7⟩:=q7; exact ⟨σ7,H7,I7.unpinned,q7⟩
    | ret v=>obtain ⟨x7,σ7,H7,I7,r7,q7⟩:=q7; exact ⟨x7,σ7,H7,I7.unpinned,r7,q7⟩
end
theorem for_list {K:PySem.W.Frag} {a:Addr} {xs:List V} {g:TG} {tb:TS} {D:Ends} {σ:St} {H:Hp} (Pv:Nat→St→Hp→Prop) (h0:Pv 0 σ H) (hl:∀ i σ H,i≤xs.length→Pv i σ H→SqL K H a xs)
    (hs:∀ i x σ H,xs[i]?=some x→Pv i σ H→g x σ H fun σ2 H2=>tb { D with nx:=Pv (i+1),ct:=Pv (i+1),bk:=D.nx } σ2 H2) (hd:∀ σ H,Pv xs.length σ H→D.nx σ H) :
    ∃ W:Nat→Nat→St→Hp→Prop,(∃ m,W 0 m σ H)∧∀ i m σ H,W i m σ H →
      ((Itl K a).stop i H∧D.nx σ H)∨((Itl K a).go i H∧∃ N:St→Hp→Prop,(∀ σ' H',N σ' H'→∃ m',m' < m∧W (i+1) m' σ' H')∧∀ x H',(Itl K a).yld i H x H'→g x σ H' fun σ2 H2=>tb { D with nx:=N,ct:=N,bk:=D.nx } σ2 H2):=by
  refine ⟨fun i m σ H=>m=xs.length - i∧i≤xs.length∧Pv i σ H,⟨xs.length,by simp,Nat.zero_le _,h0⟩,?_⟩
  rintro i m σ H ⟨rfl,hi,p⟩
  have q:=hl i σ H hi p
  by_cases hlt:i < xs.length
  · refine .inr ⟨⟨xs,xs[i],q,by simp [hlt]⟩,Pv (i+1),fun σ' H' p'=>⟨xs.length - (i+1),by omega,rfl,hlt,p'⟩,fun x H' y=>?_⟩
    obtain ⟨e,y⟩:=y
    subst e
    exact hs i x σ _ (y xs q) p
  · have e:i=xs.length:=by omega
    subst e
    exact .inl ⟨⟨xs,q,Nat.le_refl _⟩,hd σ H p⟩
theorem for_tup {K:PySem.W.Frag} {a:Addr} {xs:List V} {g:TG} {tb:TS} {D:Ends} {σ:St} {H:Hp} (Pv:Nat→St→Hp→Prop) (h0:Pv 0 σ H) (hl:∀ i σ H,i≤xs.length→Pv i σ H→SqT K H a xs)
    (hs:∀ i x σ H,xs[i]?=some x→Pv i σ H→g x σ H fun σ2 H2=>tb { D with nx:=Pv (i+1),ct:=Pv (i+1),bk:=D.nx } σ2 H2) (hd:∀ σ H,Pv xs.length σ H→D.nx σ H) :
    ∃ W:Nat→Nat→St→Hp→Prop,(∃ m,W 0 m σ H)∧∀ i m σ H,W i m σ H →
      ((Itt K a).stop i H∧D.nx σ H)∨((Itt K a).go i H∧∃ N:St→Hp→Prop,(∀ σ' H',N σ' H'→∃ m',m' < m∧W (i+1) m' σ' H')∧∀ x H',(Itt K a).yld i H x H'→g x σ H' fun σ2 H2=>tb { D with nx:=N,ct:=N,bk:=D.nx } σ2 H2):=by
  refine ⟨fun i m σ H=>m=xs.length - i∧i≤xs.length∧Pv i σ H,⟨xs.length,by simp,Nat.zero_le _,h0⟩,?_⟩
  rintro i m σ H ⟨rfl,hi,p⟩
  have q:=hl i σ H hi p
  by_cases hlt:i < xs.length
  · refine .inr ⟨⟨xs,xs[i],q,by simp [hlt]⟩,Pv (i+1),fun σ' H' p'=>⟨xs.length - (i+1),by omega,rfl,hlt,p'⟩,fun x H' y=>?_⟩
    obtain ⟨e,y⟩:=y
    subst e
    exact hs i x σ _ (y xs q) p
  · have e:i=xs.length:=by omega
    subst e
    exact .inl ⟨⟨xs,q,Nat.le_refl _⟩,hd σ H p⟩
theorem for_range {lo:Int} {n:Nat} {g:TG} {tb:TS} {D:Ends} {σ:St} {H:Hp} (Pv:Nat→St→Hp→Prop) (h0:Pv 0 σ H)
    (hs:∀ i σ H,i < n→Pv i σ H→g (.int (lo+i)) σ H fun σ2 H2=>tb { D with nx:=Pv (i+1),ct:=Pv (i+1),bk:=D.nx } σ2 H2) (hd:∀ σ H,Pv n σ H→D.nx σ H) :
    ∃ W:Nat→Nat→St→Hp→Prop,(∃ m,W 0 m σ H)∧∀ i m σ H,W i m σ H →
      ((Itr lo n).stop i H∧D.nx σ H)∨((Itr lo n).go i H∧∃ N:St→Hp→Prop,(∀ σ' H',N σ' H'→∃ m',m' < m∧W (i+1) m' σ' H')∧∀ x H',(Itr lo n).yld i H x H'→g x σ H' fun σ2 H2=>tb { D with nx:=N,ct:=N,bk:=D.nx } σ2 H2):=by
  refine ⟨fun i m σ H=>m=n - i∧i≤n∧Pv i σ H,⟨n,by simp,Nat.zero_le _,h0⟩,?_⟩
  rintro i m σ H ⟨rfl,hi,p⟩
  by_cases hlt:i < n
  · refine .inr ⟨hlt,Pv (i+1),fun σ' H' p'=>⟨n - (i+1),by omega,rfl,hlt,p'⟩,fun x H' y=>?_⟩
    obtain ⟨e,y⟩:=y
    subst e y
    exact hs i σ _ hlt p
  · have e:i=n:=by omega
    subst e
    exact .inl ⟨Nat.le_refl _,hd σ H p⟩
end L2
namespace L2
open PySem PySem.Spec PyProof.Rows
abbrev R2:=V→V→Hp→VK→Prop
def OpR (X:Cx) (f:Value→Value→Sem Value) (r:R2):Prop :=
  ∀ (pins:List (Addr × Obj)) (s:Shared) (σ:St) (H:Hp) (x y:V) (v u:Value) (Q:VK),Inv X pins σ H s→RelV x v→RelV y u→r x y H Q →
    wpAny (model X.prog X.w) X.A (f v u) (EP X pins σ Q) X.xe s
def CallR (X:Cx) (f:Value) (r:List V→Hp→VK→Prop):Prop :=
  ∀ (pins:List (Addr × Obj)) (s:Shared) (σ:St) (H:Hp) (xs:List V) (us:List Value) (Q:VK),Inv X pins σ H s→Vals xs us→r xs H Q →
    wpAny (model X.prog X.w) X.A (call f us) (EP X pins σ Q) X.xe s
def tOp (r:R2) (ta tb:TE):TE:=fun σ H Q=>ta σ H fun x H1=>tb σ H1 fun y H2=>r x y H2 Q
def rI (C:Int→Int→Prop) (g:Int→Int→V):R2:=fun x y H Q=>∃ i j,x=.int i∧y=.int j∧C i j∧Q (g i j) H
def rI0 (g:Int→Int→V):R2:=fun x y H Q=>∃ i j,x=.int i∧y=.int j∧Q (g i j) H
section
variable {X:Cx} {a b c:Expr} {ta tb tc:TE} {pos:Pos}
theorem binT (ha:PE X a ta) (hb:PE X b tb) {pins:List (Addr × Obj)} {s:Shared} {σ:St} {H:Hp} {R:V→V→Hp→Prop} (I:Inv X pins σ H s)
    (h:ta σ H fun x H1=>tb σ H1 fun y H2=>R x y H2) {Q:Value→Shared→Prop} {f:Value→Value→Sem Value}
    (hf:∀ v u s2 x y H2,Inv X pins σ H2 s2→RelV x v→RelV y u→R x y H2→wpAny (model X.prog X.w) X.A (f v u) Q X.xe s2) :
    wpAny (model X.prog X.w) X.A (eval a X.env) (fun v s₁=>wpAny (model X.prog X.w) X.A (eval b X.env) (fun u s₂=>wpAny (model X.prog X.w) X.A (f v u) Q X.xe s₂) X.xe s₁) X.xe s:=by
  refine thn (ha pins s σ H _ I h) fun v s1 ⟨x,H1,I1,r1,q1⟩=>?_
  refine thn (hb pins s1 σ H1 _ I1 q1) fun u s2 ⟨y,H2,I2,r2,q2⟩=>?_
  exact hf v u s2 x y H2 I2 r1 r2 q2
theorem pe_op {op:Operator} {r:R2} (ho:OpR X (binaryOp op) r) (ha:PE X a ta) (hb:PE X b tb):PE X (.BinOp a op b pos) (tOp r ta tb):=by
  intro pins s σ H Q I h
  exact wpAny_BinOp (binT ha hb I h fun v u s2 x y H2 I2 rx ry q=>ho pins s2 σ H2 x y v u Q I2 rx ry q)
theorem opI {f:Value→Value→Sem Value} {C:Int→Int→Prop} {g:Int→Int→Int}
    (rule:∀ (i j:Int) (t u:Tok) (s:Shared) (Q:Value→Shared→Prop) (E:Value→Shared→Prop),C i j→Q (.int (g i j) s.toks) { s with toks:=s.toks+1 }→wpAny (model X.prog X.w) X.A (f (.int i t) (.int j u)) Q E s) :
    OpR X f (rI C fun i j=>.int (g i j)):=by
  intro pins s σ H x y v u Q I rx ry h
  obtain ⟨i,j,rfl,rfl,hc,q⟩:=h
  obtain ⟨t,rfl⟩:=rx
  obtain ⟨t',rfl⟩:=ry
  exact rule i j t t' s _ _ hc ⟨.int (g i j),H,I.tok _,⟨_,rfl⟩,q⟩
theorem opI0 {f:Value→Value→Sem Value} {g:Int→Int→Int}
    (rule:∀ (i j:Int) (t u:Tok) (s:Shared) (Q:Value→Shared→Prop) (E:Value→Shared→Prop),Q (.int (g i j) s.toks) { s with toks:=s.toks+1 }→wpAny (model X.prog X.w) X.A (f (.int i t) (.int j u)) Q E s) :
    OpR X f (rI0 fun i j=>.int (g i j)):=by
  intro pins s σ H x y v u Q I rx ry h
  obtain ⟨i,j,rfl,rfl,q⟩:=h
  obtain ⟨t,rfl⟩:=rx
  obtain ⟨t',rfl⟩:=ry
  exact rule i j t t' s _ _ ⟨.int (g i j),H,I.tok _,⟨_,rfl⟩,q⟩
theorem opB0 {f:Value→Value→Sem Value} {g:Int→Int→Bool}
    (rule:∀ (i j:Int) (t u:Tok) (s:Shared) (Q:Value→Shared→Prop) (E:Value→Shared→Prop),Q (.bool (g i j)) s→wpAny (model X.prog X.w) X.A (f (.int i t) (.int j u)) Q E s) :
    OpR X f (rI0 fun i j=>.bl (g i j)):=by
  intro pins s σ H x y v u Q I rx ry h
  obtain ⟨i,j,rfl,rfl,q⟩:=h
  obtain ⟨t,rfl⟩:=rx
  obtain ⟨t',rfl⟩:=ry
  exact rule i j t t' s _ _ ⟨.bl (g i j),H,I,rfl,q⟩
def CPow (i j:Int):Prop:=0≤j∧j≤1000000∧i.natAbs < 2 ^ 64
def CMul (i j:Int):Prop:=(-(2 ^ 64) < i∧i < 2 ^ 64)∨(-(2 ^ 64) < j∧j < 2 ^ 64)
theorem CMul.ok {i j:Int} (h:CMul i j):IntMulOk i j:=by
  rcases h with ⟨h1,h2⟩ | ⟨h1,h2⟩
  · exact .of_left (intBits_le_64 h1 h2)
  · exact .of_right (intBits_le_64 h1 h2)
theorem op_add:OpR X (binaryOp .Add) (rI0 fun i j=>.int (i+j)):=opI0 fun _ _ _ _ _ _ _ q=>add_int q
theorem op_sub:OpR X (binaryOp .Sub) (rI0 fun i j=>.int (i - j)):=opI0 fun _ _ _ _ _ _ _ q=>sub_int q
theorem op_mul:OpR X (binaryOp .Mult) (rI CMul fun i j=>.int (i * j)):=opI fun _ _ _ _ _ _ _ hc q=>mul_int q hc.ok
theorem op_mod:OpR X (binaryOp .Mod) (rI (fun _ j=>0 < j) fun i j=>.int (i % j)):=opI fun i j _ _ _ _ _ hc q=>by
  have h1:(0:Int) < j:=hc
  exact mod_int' (by omega) (by rw [Int.fmod_eq_emod_of_nonneg i (by omega)]; exact q)
theorem op_pow:OpR X (binaryOp .Pow) (rI CPow fun i j=>.int (i ^ j.toNat)):=opI fun _ _ _ _ _ _ _ hc q=>pow_int_small hc.1 hc.2.1 hc.2.2 q
end
def scal:V→V→Bool
  | .non,.non=>true | .non,.int _=>true | .int _,.non=>true | .non,.bl _=>true | .bl _,.non=>true | .non,.str _=>true | .str _,.non=>true
  | .int _,.int _=>true | .bl _,.bl _=>true | .str _,.str _=>true | .byt _,.byt _=>true
  | .int _,.str _=>true | .str _,.int _=>true | .bl _,.str _=>true | .str _,.bl _=>true
  | _,_=>false
def rEq:R2:=fun x y H Q=>scal x y=true∧Q (.bl (decide (x=y))) H
def rNe:R2:=fun x y H Q=>scal x y=true∧Q (.bl (!decide (x=y))) H
theorem dec_int {i j:Int}:decide (V.int i=V.int j)=(i == j):=by
  rw [Bool.eq_iff_iff]
  simp
theorem dec_bl {i j:Bool}:decide (V.bl i=V.bl j)=(i == j):=by
  rw [Bool.eq_iff_iff]
  simp
theorem dec_str {i j:Str}:decide (V.str i=V.str j)=(i == j):=by
  rw [Bool.eq_iff_iff]
  simp
theorem dec_byt {i j:Array UInt8}:decide (V.byt i=V.byt j)=(i.toList == j.toList):=by
  rw [Bool.eq_iff_iff]
  cases i
  cases j
  simp
section
variable {X:Cx} {a b c:Expr} {ta tb tc:TE} {pos:Pos}
theorem fin_bl {pins:List (Addr × Obj)} {σ:St} {H:Hp} {s:Shared} {Q:VK} {k k':Bool} (I:Inv X pins σ H s) (q:Q (.bl k) H) (e:k=k'):EP X pins σ Q (.bool k') s:=by
  subst e
  exact ⟨.bl k,H,I,rfl,q⟩
theorem op_eq:OpR X (compareOp .Eq) rEq:=by
  intro pins s σ H x y v u Q I rx ry h
  obtain ⟨hs,q⟩:=h
  cases x with
  | non =>
    cases rx
    cases y with
    | non=>cases ry; exact PySem.EqNone.eq_none_none (fin_bl I q (by simp))
    | bl j=>cases ry; exact PySem.EqNone.eq_none_bool (fin_bl I q (by simp))
    | int j=>obtain ⟨t',rfl⟩:=ry; exact PySem.EqNone.eq_none_int (fin_bl I q (by simp))
    | str j=>obtain ⟨t',rfl⟩:=ry; exact PySem.EqNone.eq_none_str (fin_bl I q (by simp))
    | _=>exact absurd (show false=true from hs) Bool.false_ne_true
  | bl i =>
    cases rx
    cases y with
    | non=>cases ry; exact PySem.EqNone.eq_bool_none (fin_bl I q (by simp))
    | bl j=>cases ry; exact eq_bool (fin_bl I q dec_bl)
    | str j=>obtain ⟨t',rfl⟩:=ry; exact PySem.EqMixed.eq_bool_str (fin_bl I q (by simp))
    | _=>exact absurd (show false=true from hs) Bool.false_ne_true
  | int i =>
    obtain ⟨t,rfl⟩:=rx
    cases y with
    | non=>cases ry; exact PySem.EqNone.eq_int_none (fin_bl I q (by simp))
    | int j=>obtain ⟨t',rfl⟩:=ry; exact eq_int (fin_bl I q dec_int)
    | str j=>obtain ⟨t',rfl⟩:=ry; exact PySem.EqMixed.eq_int_str (fin_bl I q (by simp))
    | _=>exact absurd (show false=true from hs) Bool.false_ne_true
  | str i =>
    obtain ⟨t,rfl⟩:=rx
    cases y with
    | non=>cases ry; exact PySem.EqNone.eq_str_none (fin_bl I q (by simp))
    | bl j=>cases ry; exact PySem.EqMixed.eq_str_bool (fin_bl I q (by simp))
    | int j=>obtain ⟨t',rfl⟩:=ry; exact PySem.EqMixed.eq_str_int (fin_bl I q (by simp))
    | str j=>obtain ⟨t',rfl⟩:=ry; exact eq_str (fin_bl I q dec_str)
    | _=>exact absurd (show false=true from hs) Bool.false_ne_true
  | byt i =>
    obtain ⟨t,rfl⟩:=rx
    cases y with
    | byt j=>obtain ⟨t',rfl⟩:=ry; exact PySem.W.eq_bytes (fin_bl I q dec_byt)
    | _=>exact absurd (show false=true from hs) Bool.false_ne_true
  | _=>cases y <;> exact absurd (show false=true from hs) Bool.false_ne_true
theorem op_ne:OpR X (compareOp .NotEq) rNe:=by
  intro pins s σ H x y v u Q I rx ry h
  obtain ⟨hs,q⟩:=h
  cases x with
  | non =>
    cases rx
    cases y with
    | non=>cases ry; exact PySem.EqNone.ne_none_none (fin_bl I q (by simp))
    | bl j=>cases ry; exact PySem.EqNone.ne_none_bool (fin_bl I q (by simp))
    | int j=>obtain ⟨t',rfl⟩:=ry; exact PySem.EqNone.ne_none_int (fin_bl I q (by simp))
    | str j=>obtain ⟨t',rfl⟩:=ry; exact PySem.EqNone.ne_none_str (fin_bl I q (by simp))
    | _=>exact absurd (show false=true from hs) Bool.false_ne_true
  | bl i =>
    cases rx
    cases y with
    | non=>cases ry; exact PySem.EqNone.ne_bool_none (fin_bl I q (by simp))
    | bl j=>cases ry; exact ne_bool (fin_bl I q (congrArg not dec_bl))
    | str j=>obtain ⟨t',rfl⟩:=ry; exact PySem.EqMixed.ne_bool_str (fin_bl I q (by simp))
    | _=>exact absurd (show false=true from hs) Bool.false_ne_true
  | int i =>
    obtain ⟨t,rfl⟩:=rx
    cases y with
    | non=>cases ry; exact PySem.EqNone.ne_int_none (fin_bl I q (by simp))
    | int j=>obtain ⟨t',rfl⟩:=ry; exact ne_int (fin_bl I q (congrArg not dec_int))
    | str j=>obtain ⟨t',rfl⟩:=ry; exact PySem.EqMixed.ne_int_str (fin_bl I q (by simp))
    | _=>exact absurd (show false=true from hs) Bool.false_ne_true
  | str i =>
    obtain ⟨t,rfl⟩:=rx
    cases y with
    | non=>cases ry; exact PySem.EqNone.ne_str_none (fin_bl I q (by simp))
    | bl j=>cases ry; exact PySem.EqMixed.ne_str_bool (fin_bl I q (by simp))
    | int j=>obtain ⟨t',rfl⟩:=ry; exact PySem.EqMixed.ne_str_int (fin_bl I q (by simp))
    | str j=>obtain ⟨t',rfl⟩:=ry; exact ne_str (fin_bl I q (congrArg not dec_str))
    | _=>exact absurd (show false=true from hs) Bool.false_ne_true
  | byt i =>
    obtain ⟨t,rfl⟩:=rx
    cases y with
    | byt j=>obtain ⟨t',rfl⟩:=ry; exact PySem.W.ne_bytes (fin_bl I q (congrArg not dec_byt))
    | _=>exact absurd (show false=true from hs) Bool.false_ne_true
  | _=>cases y <;> exact absurd (show false=true from hs) Bool.false_ne_true
theorem op_gt:OpR X (compareOp .Gt) (rI0 fun i j=>.bl (decide (j < i))):=opB0 fun _ _ _ _ _ _ _ q=>gt_int q
theorem op_ge:OpR X (compareOp .GtE) (rI0 fun i j=>.bl (decide (j≤i))):=opB0 fun _ _ _ _ _ _ _ q=>ge_int q
theorem op_isN:OpR X (compareOp .Is) (fun x y H Q=>y=.non∧Q (.bl (decide (x=.non))) H):=by
  intro pins s σ H x y v u Q I rx ry h
  obtain ⟨rfl,q⟩:=h
  cases ry
  refine is_none_gen (fin_bl I q ?_)
  cases x <;> first
    | (cases rx; rfl)
    | (obtain ⟨t,rfl⟩:=rx; rfl)
theorem op_notN:OpR X (compareOp .IsNot) (fun x y H Q=>y=.non∧Q (.bl (!decide (x=.non))) H):=by
  intro pins s σ H x y v u Q I rx ry h
  obtain ⟨rfl,q⟩:=h
  cases ry
  refine isnot_none_gen (fin_bl I q ?_)
  cases x <;> first
    | (cases rx; rfl)
    | (obtain ⟨t,rfl⟩:=rx; rfl)
theorem nomark (b:Expr) {op:CmpOp} (h:op≠.In:=by decide) (h2:op≠.NotIn:=by decide):behindInMarks op b=false:=by
  have e1:(op == CmpOp.In)=false:=by cases op <;> first | rfl | exact absurd rfl h
  have e2:(op == CmpOp.NotIn)=false:=by cases op <;> first | rfl | exact absurd rfl h2
  cases b <;> simp [behindInMarks,e1,e2]
theorem pe_cmpR {op:CmpOp} {r:R2} (ho:OpR X (compareOp op) r) (ha:PE X a ta) (hb:PE X b tb) (hm:behindInMarks op b=false):PE X (.Compare a [op] [b] pos) (tOp r ta tb):=by
  intro pins s σ H Q I h
  exact wpAny_Compare1 (binT ha hb I h fun v u s2 x y H2 I2 rx ry q=>ho pins s2 σ H2 x y v u Q I2 rx ry q) hm
def tTest (t:TE):TT:=fun σ H Q=>t σ H fun x H'=>∃ k,x=.bl k∧Q k H'
theorem pt_cmpR {op:CmpOp} {r:R2} (ho:OpR X (compareOp op) r) (ha:PE X a ta) (hb:PE X b tb) (hm:behindInMarks op b=false):PT X (.Compare a [op] [b] pos) (tTest (tOp r ta tb)):=by
  intro pins s σ H Q I h
  refine wpAny_isTrue_Compare1 (thn (ha pins s σ H _ I h) fun v s1 ⟨x,H1,I1,r1,q1⟩=>thn (hb pins s1 σ H1 _ I1 q1) fun u s2 ⟨y,H2,I2,r2,q2⟩ =>
    thn (ho pins s2 σ H2 x y v u _ I2 r1 r2 q2) fun c s3 ⟨z,H3,I3,r3,k,e,q3⟩=>?_) hm
  subst e
  cases r3
  exact wpAny_truthy_bool ⟨H3,I3,q3⟩
theorem line63:(sizeLine:Nat) < 2 ^ 63:=by rw [sizeLine_eq]; decide
theorem op_add_str:OpR X (binaryOp .Add) (fun x y H Q=>∃ i j,x=.str i∧y=.str j∧i.length+j.length≤sizeLine∧Q (.str (i++j)) H):=by
  intro pins s σ H x y v u Q I rx ry h
  obtain ⟨i,j,rfl,rfl,hz,q⟩:=h
  obtain ⟨t,rfl⟩:=rx
  obtain ⟨t',rfl⟩:=ry
  exact add_str (fun t' tk=>⟨.str (i++j),H,I.tok _,⟨_,rfl⟩,q⟩) hz
theorem vals1 {x:V} {us:List Value} (r:Vals [x] us):∃ u,us=[u]∧RelV x u:=by
  cases r with
  | cons r1 r2=>cases r2; exact ⟨_,rfl,r1⟩
theorem vals2 {x y:V} {us:List Value} (r:Vals [x,y] us):∃ u w',us=[u,w']∧RelV x u∧RelV y w':=by
  cases r with
  | cons r1 r2 =>
    cases r2 with
    | cons r3 r4=>cases r4; exact ⟨_,_,rfl,r1,r3⟩
theorem call_min2 (hc:X.calm=true):CallR X (.builtin "min") (fun xs H Q=>∃ i j,xs=[.int i,.int j]∧Q (.int (if j < i then j else i)) H):=by
  intro pins s σ H xs us Q I r h
  obtain ⟨i,j,rfl,q⟩:=h
  obtain ⟨u,w',rfl,⟨t,rfl⟩,⟨t',rfl⟩⟩:=vals2 r
  refine min_two_ints (I.ok.hd hc) fun h' tk k=>⟨_,H,I.kept k,?_,q⟩
  by_cases hj:j < i
  · rw [if_pos hj,if_pos hj]; exact ⟨_,rfl⟩
  · rw [if_neg hj,if_neg hj]; exact ⟨_,rfl⟩
theorem call_int1:CallR X (.type "int") (fun xs H Q=>(∃ i,xs=[.int i]∧Q (.int i) H)∨∃ k,xs=[.bl k]∧Q (.int (if k then 1 else 0)) H):=by
  intro pins s σ H xs us Q I r h
  rcases h with ⟨i,rfl,q⟩ | ⟨k,rfl,q⟩
  · obtain ⟨u,rfl,t,rfl⟩:=vals1 r
    exact call_int_int ⟨.int i,H,I,⟨_,rfl⟩,q⟩
  · obtain ⟨u,rfl,r1⟩:=vals1 r
    cases r1
    exact call_int_bool ⟨.int (if k then 1 else 0),H,I.tok _,⟨_,rfl⟩,q⟩
end
end L2
namespace L2
open PySem PySem.Spec PyProof.Rows
structure ObjM (h:Heap) (x dx C:Addr) (mA:Str→Option Value):Prop where
  obj:h.get? x=some (PySem.W.instObj C dx)
  ns:h.Ns1 dx mA
  ne:dx≠x
theorem lookIn_ns {h:Heap} {dx:Addr} {mA:Str→Option Value} (n:h.Ns1 dx mA):∃ od,h.get? dx=some od∧∀ name,PySem.W.lookIn name od=some (mA name):=by
  obtain ⟨o,es,ep,ho,hd,hk,_,hm⟩:=n
  refine ⟨o,ho,fun name=>?_⟩
  have e:=hm name
  unfold nsFind findBy at e
  rw [← Array.find?_toList] at e
  unfold PySem.W.lookIn
  rw [hd]
  dsimp only
  split
  · rename_i y q
    rw [q] at e
    exact congrArg some e
  · rename_i q
    rw [q] at e
    have a:es.toList.any (·.refKey)=false:=by
      rw [List.any_eq_false]
      intro y hy
      obtain ⟨z,t,hkey⟩:=hk y (Array.mem_toList_iff.mp hy)
      simp [DictEntry.refKey,hkey]
    have a':¬ es.toList.any (·.refKey)=true:=by rw [a]; exact Bool.false_ne_true
    rw [if_neg a']
    exact congrArg some e
theorem ObjM.look {h:Heap} {x dx C:Addr} {mA:Str→Option Value} (I:ObjM h x dx C mA):∃ od,PySem.W.InstAt h x (PySem.W.instObj C dx) C (some od)∧∀ name,PySem.W.lookIn name od=some (mA name) :=
  let ⟨od,ho,hl⟩:=lookIn_ns I.ns
  ⟨od,⟨I.obj,rfl,rfl,ho⟩,hl⟩
section
variable {prog:Program} {w:World} {A:Around} {E:Value→Shared→Prop} {s:Shared} {K:PySem.W.Frag} {x dx C f:Addr} {mA:Str→Option Value} {name:Str} {v:Value}
end
theorem RelO.some_of {v:V} {o:Option Value} (r:RelO (some v) o):∃ u,o=some u∧RelV v u:=by
  cases o with
  | none=>exact (show False from r).elim
  | some u=>exact ⟨u,rfl,r⟩
section
variable {P:Program} {w:World} {H H':Hp} {h h':Heap} {a C dx:Addr} {fs fs':List (Str × V)}
theorem ins_get (hok:HOk P w H h) (e:H a=some (.ins C dx fs)):∃ mA,ObjM h a dx C mA∧(∀ f,RelO (fs.lookup f) (mA f))∧PySem.Within mA (fs.map (·.1))∧fs.length≤1000∧H dx=some (.own a):=by
  obtain ⟨d,z,ne,ob,mA,n,r,q⟩:=(show ObjOk P w H h a (.ins C dx fs) from hok a _ e)
  exact ⟨mA,⟨ob,n,ne⟩,r,q,z,d⟩
end
structure Cls (K:PySem.W.Frag) (C:Addr):Prop where
  pg:PySem.W.plainGet K C Str.empty=true
  hd:PySem.W.hasDictIn K C=true
  po:PySem.W.plainOver K C=true
  sa:PySem.W.findIn K (.ref C) "__setattr__" = some (some (.builtin "object.__setattr__"))
theorem Cls.get {K:PySem.W.Frag} {C:Addr} (c:Cls K C) (f:Str):PySem.W.plainGet K C f=true:=c.pg
structure Con (K:PySem.W.Frag) (C:Addr) (f:Str) (v:V) (u:Value):Prop where
  at_:PySem.W.findIn K (.ref C) f=some (some u)
  rel:RelV v u
  get:PySem.W.specialIn K u "__get__" = some none
  cp:PySem.W.copiedNames.contains f=false
structure Meth (K:PySem.W.Frag) (C:Addr) (m:Str) (f:Addr):Prop where
  at_:PySem.W.findIn K (.ref C) m=some (some (.ref f))
  fn:PySem.W.isFn K (.ref f)=true
  kp:PySem.W.keepIn K (.ref f)=true
section
variable {X:Cx} {pins:List (Addr × Obj)} {σ:St} {H:Hp} {s:Shared} {a C dx:Addr} {fs:List (Str × V)} {f:Str} {v:V} {A:Around} {E:Value→Shared→Prop}
end
section
variable {X:Cx} {o e value:Expr} {f:Str} {pos pos' tpos:Pos} {ta tv:TE}
end
section
variable {X:Cx} {pins:List (Addr × Obj)} {σ:St} {H:Hp} {s:Shared} {A:Around} {E:Value→Shared→Prop} {Q:Value→Shared→Prop} {c:Value} {b:Bool}
inductive TyOf (K:PySem.W.Frag) (H:Hp):V→Value→Prop where
  | non:TyOf K H .non (.type "NoneType")
  | bl (x:Bool):TyOf K H (.bl x) (.type "bool")
  | int (i:Int):TyOf K H (.int i) (.type "int")
  | str (x:Str):TyOf K H (.str x) (.type "str")
  | flt (x:UInt64):TyOf K H (.flt x) (.type "float")
  | lst {a:Addr} {xs:List V} (e:H a=some (.lst xs)):TyOf K H (.ref a) (.type "list")
  | frz {a:Addr} {o:Obj} {xs:List V} (e:H a=some (.frz o (.lst xs))):TyOf K H (.ref a) (.type "list")
  | tup {a:Addr} {xs:List V} (e:H a=some (.tup xs)):TyOf K H (.ref a) (.type "tuple")
  | dK {a:Addr} {kvs:List (Key × V)} (e:H a=some (.dK kvs)):TyOf K H (.ref a) (.type "dict")
  | dT {a:Addr} {kvs:List (List Key × V)} (e:H a=some (.dT kvs)):TyOf K H (.ref a) (.type "dict")
  | ins {a C dx:Addr} {fs:List (Str × V)} (e:H a=some (.ins C dx fs)) (cl:Cls K C) (ha:PySem.W.findIn K (.ref C) "__class__" = some (some (.builtin "object.__class__")))
      (hn:PySem.W.specialIn K (.builtin "object.__class__") "__get__" = some (some (.builtin "getset_descriptor.__get__"))) (htk:PySem.W.takesIn K (.builtin "object.__class__")=some true)
      (hm:PySem.W.mroIn K C (.type "object")=some true):TyOf K H (.ref a) (.ref C)
theorem isinst_ok {x:V} {u t:Value} (I:Inv X pins σ H s) (rx:RelV x u) (ty:TyOf X.K H x t) (e:PySem.W.kitOne X.K t c=some b) (h:∀ tk,Q (.bool b) { s with toks:=tk }) :
    wpAny (model X.prog X.w) A (call (.builtin "isinstance") [u,c]) Q E s:=by
  cases ty with
  | non=>cases (show u=Value.none from rx); exact PySem.W.kia_one PySem.W.kitx_none I.kIn True.intro e (fun z=>nomatch z) h
  | bl y=>cases (show u=Value.bool y from rx); exact PySem.W.kia_one PySem.W.kitx_bool I.kIn True.intro e (fun z=>nomatch z) h
  | int i=>obtain ⟨t,q⟩:=(show ∃ t,u=Value.int i t from rx); cases q; exact PySem.W.kia_one PySem.W.kitx_int I.kIn True.intro e (fun z=>nomatch z) h
  | str y=>obtain ⟨t,q⟩:=(show ∃ t,u=Value.str y t from rx); cases q; exact PySem.W.kia_one PySem.W.kitx_str I.kIn True.intro e (fun z=>nomatch z) h
  | flt y=>obtain ⟨t,q⟩:=(show ∃ t,u=Value.float y t from rx); cases q; exact PySem.W.kia_one PySem.W.kitx_float I.kIn True.intro e (fun z=>nomatch z) h
  | @lst a xs ea =>
    cases (show u=Value.ref a from rx)
    obtain ⟨_,_,n,_,h1⟩:=(show ObjOk X.prog X.w H s.heap a (.lst xs) from I.hok a _ ea)
    exact PySem.W.kia_one PySem.W.kitx_list I.kIn ⟨_,h1,rfl⟩ e (fun z=>nomatch z) h
  | @frz a ob xs ea =>
    cases (show u=Value.ref a from rx)
    obtain ⟨_,_,_,n,_,h1⟩:=(show ObjOk X.prog X.w H s.heap a (.frz ob (.lst xs)) from I.hok a _ ea)
    exact PySem.W.kia_one PySem.W.kitx_list I.kIn ⟨_,h1,rfl⟩ e (fun z=>nomatch z) h
  | @tup a xs ea =>
    cases (show u=Value.ref a from rx)
    obtain ⟨_,_,_,p⟩:=(show ObjOk X.prog X.w H s.heap a (.tup xs) from I.hok a _ ea)
    obtain ⟨o,h1,h2,_⟩:=p
    exact PySem.W.kia_one PySem.W.kitx_tuple I.kIn ⟨o,h1,h2⟩ e (fun z=>nomatch z) h
  | @dK a kvs ea =>
    cases (show u=Value.ref a from rx)
    obtain ⟨_,_,vs,_,p⟩:=(show ObjOk X.prog X.w H s.heap a (.dK kvs) from I.hok a _ ea)
    obtain ⟨o,es,ep,h1,h2,_⟩:=p
    exact PySem.W.kia_one PySem.W.kitx_dict I.kIn ⟨o,h1,h2.1⟩ e (fun z=>nomatch z) h
  | @dT a kvs ea =>
    cases (show u=Value.ref a from rx)
    obtain ⟨_,_,xs,_,o,es,ep,h1,h2,_⟩:=(show ObjOk X.prog X.w H s.heap a (.dT kvs) from I.hok a _ ea)
    exact PySem.W.kia_one PySem.W.kitx_dict I.kIn ⟨o,h1,h2.1⟩ e (fun z=>nomatch z) h
  | @ins a C dx fs ea cl ha hn htk hm =>
    cases (show u=Value.ref a from rx)
    obtain ⟨mA,O,_⟩:=ins_get I.hok ea
    obtain ⟨od,J,_⟩:=O.look
    exact PySem.W.kia_one (PySem.W.kitx_own (cl.get _) cl.hd ha hn htk hm) I.kIn J e (fun z=>nomatch z) h
end
end L2
namespace L2
open PySem PySem.Spec PyProof.Rows
structure Room (k:Nat) (A:Around):Prop where
  hd:A.handled=none
  dp:A.depth+3 * k+5 < recursionLimit
  un:A.units+16 * k+200 < cLine
theorem Room.mono {j k:Nat} {A:Around} (r:Room k A) (h:j≤k):Room j A:=⟨r.hd,by have:=r.dp; omega,by have:=r.un; omega⟩
theorem Room.deeper {k:Nat} {A:Around} (r:Room (k+1) A) (env:Env):Room k (A.deeper env) :=
  ⟨r.hd,by have:=r.dp; show A.depth+1+3 * k+5 < _; omega,by have:=r.un; show A.units+3+16 * k+200 < _; omega⟩
theorem Room.depth {k:Nat} {A:Around} (r:Room k A):A.depth < recursionLimit:=by have:=r.dp; omega
theorem Room.units {k:Nat} {A:Around} (r:Room k A):A.units+64 < cLine:=by have:=r.un; omega
theorem Room.units0 {k:Nat} {A:Around} (r:Room k A):A.units < cLine:=by have:=r.un; omega
def tNil:TA:=fun _ H Q=>Q [] H
def tCons (ta:TE) (tr:TA):TA:=fun σ H Q=>ta σ H fun x H1=>tr σ H1 fun xs H2=>Q (x :: xs) H2
section
variable {X:Cx} {e:Expr} {es:List Expr} {te:TE} {t:TA} {pos:Pos}
theorem pa_nil:PA X [] tNil:=fun _ _ _ _ H Q I h=>Calls.spliced_nil ⟨[],H,I,.nil,h⟩
theorem pa_cons (ha:PE X e te) (hr:PA X es t) (hs:starEach (e :: es) X.env=(false,eval e X.env) :: starEach es X.env:=by rfl):PA X (e :: es) (tCons te t):=by
  intro pos pins s σ H Q I h
  rw [hs]
  show wpAny _ _ (spliced ((false,eval e X.env) :: backTo pos (starEach es X.env))) _ _ s
  refine Calls.spliced_cons (thn (ha pins s σ H _ I h) fun u s1 ⟨x,H1,I1,r1,q1⟩=>?_)
  exact thn (hr pos pins s1 σ H1 _ I1 q1) fun us s2 ⟨xs,H2,I2,r2,q2⟩=>⟨x :: xs,H2,I2,.cons r1 r2,q2⟩
def tTup (t:TA):TE:=fun σ H Q=>t σ H fun xs H1=>xs.length≤sizeLine∧∀ p,H1 p=none→Q (.ref p) (upd H1 p (.tup xs))
def tLst (t:TA):TE:=fun σ H Q=>t σ H fun xs H1=>xs.length≤sizeLine∧∀ p,H1 p=none→Q (.ref p) (upd H1 p (.lst xs))
theorem pe_tup {x1} (h:PA X es t):PE X (.Tuple es x1 pos) (tTup t):=by
  intro pins s σ H Q I hq
  refine wpAny_Tuple_spliced (thn (h pos pins s σ H _ I hq) fun us s1 ⟨xs,H1,I1,r,z,q⟩=>⟨by rw [← r.length]; exact z,?_⟩)
  have hf:H1 s1.heap.objs.size=none:=I1.hok.fresh (Nat.le_refl _)
  refine ⟨.ref s1.heap.objs.size,upd H1 s1.heap.objs.size (.tup xs),I1.laid (t':=s1.toks) (fun b u e=>Heap.get?_push_of_some _ e) (Nat.le_refl _) ?_,rfl,q _ hf⟩
  exact ⟨z,us,r,⟨_,Heap.get?_push_size _ rfl,rfl,_,rfl⟩⟩
theorem pe_lst (h:PA X es t):PE X (.List es pos) (tLst t):=by
  intro pins s σ H Q I hq
  refine wpAny_List_spliced (thn (h pos pins s σ H _ I hq) fun us s1 ⟨xs,H1,I1,r,z,q⟩=>⟨by rw [← r.length]; exact z,?_⟩)
  have hf:H1 s1.heap.objs.size=none:=I1.hok.fresh (Nat.le_refl _)
  refine ⟨.ref s1.heap.objs.size,upd H1 s1.heap.objs.size (.lst xs),I1.laid (t':=s1.toks) (fun b u e=>Heap.get?_push_of_some _ e) (Nat.le_refl _) ?_,rfl,q _ hf⟩
  exact ⟨z,us,0,r,Heap.get?_push_size _ rfl⟩
end
abbrev Sp:=List V→Hp→VK→XK→Prop
abbrev CXT:=List Env→Hp→Shared→XK→Value→Shared→Prop
structure Env0 (P:Program) (w:World) (K:PySem.W.Frag) (mg:Str→Option Value) (base:Heap) (A:Around) (outer:List Env) (s:Shared) (H:Hp):Prop where
  frames:A.frames=some outer
  mod:Mod K mg base
  bs:∀ b o,base.get? b=some o→s.heap.get? b=some o∧H b=none
  bsz:base.objs.size≤s.heap.objs.size
  funs:s.heap.FunFrames base outer
  frf:∀ b∈frs outer,H b=none
  hok:HOk P w H s.heap
  bare:AllBare s.gens
def CE (outer:List Env) (P:Program) (w:World) (H:Hp) (s:Shared) (Q:VK) (u:Value) (s':Shared):Prop :=
  ∃ v H',s'.os=s.os∧AllBare s'.gens∧Un (frs outer) [] H H' s.heap s'.heap∧HOk P w H' s'.heap∧RelV v u∧Q v H'
def CR (CX:CXT) (outer:List Env) (P:Program) (w:World) (H:Hp) (s:Shared) (Q:VK) (E:XK) (r:Result) (s':Shared):Prop :=
  match r with
  | .ok (.ret u)=>CE outer P w H s Q u s'
  | .ok _=>False
  | .error e=>CX outer H s E e s'
structure FnOk (P:Program) (w:World) (K:PySem.W.Frag) (mg:Str→Option Value) (base:Heap) (CX:CXT) (k:Nat) (f:Addr) (fd:FuncData) (ps:List Str) (sp:Sp):Prop where
  len:∀ vs H Q E,sp vs H Q E→vs.length=ps.length
  run:∀ (A:Around) (outer:List Env) (s:Shared) (H:Hp) (args:Args) (us:List Value) (vs:List V) (Q:VK) (E:XK),Room k A→Env0 P w K mg base A outer s H→BindsTo s fd args (ps.zip us)→Vals vs us→sp vs H Q E →
    codeAny (model P w) A (.call (.ref f) args) (CR CX outer P w H s Q E) s
theorem FnOk.mono {P:Program} {w:World} {K:PySem.W.Frag} {mg:Str→Option Value} {base:Heap} {CX:CXT} {j k:Nat} {f:Addr} {fd:FuncData} {ps:List Str} {sp:Sp} (F:FnOk P w K mg base CX j f fd ps sp) (h:j≤k) :
    FnOk P w K mg base CX k f fd ps sp:=⟨F.len,fun A outer s H args us vs Q E hr=>F.run A outer s H args us vs Q E (hr.mono h)⟩
theorem FnOk.imp {P:Program} {w:World} {K:PySem.W.Frag} {mg:Str→Option Value} {base:Heap} {CX:CXT} {k:Nat} {f:Addr} {fd:FuncData} {ps:List Str} {sp sp':Sp} (F:FnOk P w K mg base CX k f fd ps sp)
    (h:∀ vs H Q E,sp' vs H Q E→sp vs H Q E):FnOk P w K mg base CX k f fd ps sp' :=
  ⟨fun vs H Q E q=>F.len vs H Q E (h _ _ _ _ q),fun A outer s H args us vs Q E hr he hb hv hs=>F.run A outer s H args us vs Q E hr he hb hv (h _ _ _ _ hs)⟩
section
variable {X:Cx} {pins:List (Addr × Obj)} {σ:St} {H:Hp} {s s':Shared}
theorem Inv.env0 (I:Inv X pins σ H s):Env0 X.prog X.w X.K X.mg X.base X.A X.stack s H :=
  ⟨I.ok.frames,I.ok.mod,I.bs,Nat.le_trans I.ok.bsz I.sz,I.stack,I.stkFree,I.hok,I.bare⟩
theorem Inv.after {Q:VK} {u:Value} (I:Inv X pins σ H s) (h:CE X.stack X.prog X.w H s Q u s'):EP X pins σ Q u s':=by
  obtain ⟨v,H',os,bare,un,hok,r,q⟩:=h
  obtain ⟨hh,g,d,t,os'⟩:=s'
  obtain rfl:os'=s.os:=os
  exact ⟨v,H',I.call (h':=hh) (g':=g) (d':=d) (t':=t) (ch:=[]) un hok bare (fun b z=>absurd z (by simp)),r,q⟩
end
def tCall (sp:Sp) (dvs:List V) (E:XK) (t:TA):TE:=fun σ H Q=>t σ H fun vs H1=>sp (vs++dvs) H1 Q E
def Binds (K:PySem.W.Frag) (fd:FuncData) (ps:List Str) (ds:List Value):Prop :=
  ∀ (s:Shared) (us:List Value),K.In s.heap→(us++ds).length=ps.length→BindsTo s fd ⟨us,[]⟩ (ps.zip (us++ds))
theorem Binds.all {K:PySem.W.Frag} {fd:FuncData} {ps:List Str} (h:∀ us:List Value,us.length=ps.length→bindArgs fd ⟨us,[]⟩=pure (ps.zip us)):Binds K fd ps []:=fun s us _ hl=>by
  rw [List.append_nil] at hl ⊢
  exact .of_eq (h us hl)
def Passes (CX:CXT) (X:Cx) (E:XK):Prop:=∀ (pins:List (Addr × Obj)) (σ:St) (H:Hp) (s:Shared) (e:Value) (s':Shared),Inv X pins σ H s→CX X.stack H s E e s'→X.xe e s'
section
variable {X:Cx} {CX:CXT} {k:Nat} {f C:Addr} {fd:FuncData} {ps:List Str} {sp:Sp} {dvs:List V} {ds:List Value} {E:XK} {x m:Str} {p pos apos:Pos} {e o:Expr} {es:List Expr} {ta:TE} {t:TA}
theorem run_fn {pins:List (Addr × Obj)} {σ:St} {H:Hp} {s:Shared} {Q:VK} {us:List Value} {vs:List V} (F:FnOk X.prog X.w X.K X.mg X.base CX k f fd ps sp) (hr:Room k X.A) (hb:Binds X.K fd ps ds) (hd:Vals dvs ds) (hx:Passes CX X E)
    (I:Inv X pins σ H s) (r:Vals vs us) (h:sp (vs++dvs) H Q E):wpAny (model X.prog X.w) X.A (call (.ref f) us) (EP X pins σ Q) X.xe s:=by
  have r2:Vals (vs++dvs) (us++ds):=r.append hd
  have hl:(us++ds).length=ps.length:=by rw [← r2.length]; exact F.len _ _ _ _ h
  refine wpAny_call (codeAny_mono (F.run X.A X.stack s H ⟨us,[]⟩ (us++ds) (vs++dvs) Q E hr I.env0 (hb s us I.kIn hl) r2 h) fun r s' hq=>?_)
  cases r with
  | error e=>exact hx pins σ H s e s' I hq
  | ok fl =>
    cases fl with
    | ret u=>exact I.after hq
    | next=>exact False.elim hq
    | brk=>exact False.elim hq
    | cont=>exact False.elim hq
theorem pe_call (F:FnOk X.prog X.w X.K X.mg X.base CX k f fd ps sp) (hr:Room k X.A) (hg:Gl X x) (hm:X.mg x=some (.ref f)) (hk:PySem.W.keepIn X.K (.ref f)=true) (hb:Binds X.K fd ps ds) (hd:Vals dvs ds) (hx:Passes CX X E)
    (ha:PA X (e :: es) t) (hdb:(x == ("__debug__" : Str))=false:=by decide) (he:starEach (e :: es) X.env=(false,eval e X.env) :: starEach es X.env:=by rfl) (hpl:(backTo pos (starEach es X.env)).any (·.1)=false:=by rfl) :
    PE X (.Call (.Name x p) (e :: es) [] pos) (tCall sp dvs E t):=by
  intro pins s σ H Q I h
  refine wpAny_Call_Name_kw (ld_glob I hg hm ?_ hdb)
  refine PySem.W.callWith_K (h₀:=X.base) I.ok.mod.kin hk (thn (ha pos pins s σ H _ I h) fun us s1 ⟨vs,H1,I1,r,q⟩=>⟨I1.kIn,?_⟩) he hpl
  exact run_fn F hr hb hd hx I1 r q
structure Mk (K:PySem.W.Frag) (C f:Addr):Prop where
  makes:PySem.W.makesIn K C=true
  init:PySem.W.findIn K (.ref C) "__init__" = some (some (.ref f))
  fn:PySem.W.isFn K (.ref f)=true
  kp:PySem.W.keepIn K (.ref C)=true
end
section
variable {X:Cx} {CX:CXT} {k:Nat} {f C:Addr} {fd:FuncData} {ps ks:List Str} {sp:Sp} {E:XK} {x m:Str} {p pos apos kpos:Pos} {e o:Expr} {es:List Expr} {kws:List Keyword} {te ta:TE} {t tk:TA} {nm:Option Str}
structure KBinds (K:PySem.W.Frag) (fd:FuncData) (ps ks:List Str) (g:List Value→List Value→List Value) (gV:List V→List V→List V):Prop where
  to:∀ (s:Shared) (us ws:List Value),K.In s.heap→(g us ws).length=ps.length→BindsTo s fd ⟨us,ks.zip ws⟩ (ps.zip (g us ws))
  rel:∀ {vs:List V} {us:List Value} {zs:List V} {ws:List Value},Vals vs us→Vals zs ws→Vals (gV vs zs) (g us ws)
variable {g:List Value→List Value→List Value} {gV:List V→List V→List V}
end
structure FnScope (N P:List Str) (sc:Scope):Prop where
  kind:sc.kind=.function
  co:sc.isCoroutine=false
  gen:sc.isGenerator=false
  nd:N.Nodup
  pre:N.take P.length=P
  par:∀ x∈P,sc.names.lookup x=some .local∨sc.names.lookup x=some .cell
  nofree:∀ y∈sc.names,y.2≠.free
theorem bindL_out {kindOf:Str→Option NameKind} {x:Str}:∀ {binds:List (Str × Value)} {m:Str→Option Value},(∀ v,(x,v) ∉ binds)→bindL kindOf binds m x=m x
  | [],_,_=>rfl
  | (n,v) :: r,m,h=>by
    unfold bindL
    rw [bindL_out fun w hw=>h w (List.mem_cons_of_mem _ hw)]
    split
    · have:x≠n:=by rintro rfl; exact h v List.mem_cons_self
      simp [this]
    · rfl
theorem bindC_out {kindOf:Str→Option NameKind} {x:Str}:∀ {binds:List (Str × Value)} {m:Str→Option Value},(∀ v,(x,v) ∉ binds)→bindC kindOf binds m x=m x
  | [],_,_=>rfl
  | (n,v) :: r,m,h=>by
    unfold bindC
    rw [bindC_out fun w hw=>h w (List.mem_cons_of_mem _ hw)]
    split
    · rfl
    · have:x≠n:=by rintro rfl; exact h v List.mem_cons_self
      simp [this]
theorem bindL_get {kindOf:Str→Option NameKind} {x:Str} {v:Value}:∀ {P:List Str} {vs:List Value} {i:Nat} {m:Str→Option Value},P.Nodup→P[i]?=some x→vs[i]?=some v→kindOf x=some .local →
    bindL kindOf (P.zip vs) m x=some v
  | [],_,_,_,_,h,_,_=>by simp at h
  | _ :: _,[],_,_,_,_,h,_=>by simp at h
  | p :: P,w :: vs,0,m,nd,h1,h2,hk=>by
    simp at h1 h2; subst h1; subst h2
    show bindL kindOf ((p,w) :: P.zip vs) m p=_
    unfold bindL
    rw [bindL_out fun v hv=>(List.nodup_cons.mp nd).1 (List.of_mem_zip hv).1,if_pos hk]
    simp
  | p :: P,w :: vs,i+1,m,nd,h1,h2,hk=>by
    show bindL kindOf ((p,w) :: P.zip vs) m x=_
    unfold bindL
    exact bindL_get (i:=i) (List.nodup_cons.mp nd).2 (by simpa using h1) (by simpa using h2) hk
theorem bindC_get {kindOf:Str→Option NameKind} {x:Str} {v:Value}:∀ {P:List Str} {vs:List Value} {i:Nat} {m:Str→Option Value},P.Nodup→P[i]?=some x→vs[i]?=some v→kindOf x≠some .local →
    bindC kindOf (P.zip vs) m x=some v
  | [],_,_,_,_,h,_,_=>by simp at h
  | _ :: _,[],_,_,_,_,h,_=>by simp at h
  | p :: P,w :: vs,0,m,nd,h1,h2,hk=>by
    simp at h1 h2; subst h1; subst h2
    show bindC kindOf ((p,w) :: P.zip vs) m p=_
    unfold bindC
    rw [bindC_out fun v hv=>(List.nodup_cons.mp nd).1 (List.of_mem_zip hv).1,if_neg hk]
    simp
  | p :: P,w :: vs,i+1,m,nd,h1,h2,hk=>by
    show bindC kindOf ((p,w) :: P.zip vs) m x=_
    unfold bindC
    exact bindC_get (i:=i) (List.nodup_cons.mp nd).2 (by simpa using h1) (by simpa using h2) hk
def start (N:List Str) (vs:List V):St:=vs.map some++List.replicate (N.length - vs.length) none
def cxOf (CX:CXT) (P:Program) (w:World) (K:PySem.W.Frag) (mg:Str→Option Value) (base:Heap) (N:List Str) (qual:Str) (scope:Scope) (f:Addr) (cd:Value) (A:Around) (outer:List Env) (s:Shared) (H:Hp) (E:XK):Cx where
  prog:=P
  w:=w
  K:=K
  mg:=mg
  base:=base
  A:=A.deeper (envOfC qual scope s.heap.objs.size f cd)
  N:=N
  s₀:=s
  H₀:=H
  env:=envOfC qual scope s.heap.objs.size f cd
  outer:=outer
  stack:=envOfC qual scope s.heap.objs.size f cd :: outer
  ex:=[]
  calm:=true
  fn:=fun _=>true
  pn:=[]
  xe:=fun e s'=>wpAny (model P w) (A.deeper (envOfC qual scope s.heap.objs.size f cd)) (leaving (envOfC qual scope s.heap.objs.size f cd) e) (fun _ s''=>CX outer H s E e s'') (fun e' s''=>CX outer H s E e' s'') s'
theorem cell_has {sc:Scope} {n:Nat} {x:Str} (h:sc.names.lookup x=some .cell):∃ c,(cellsFrom n sc.names []).lookup x=some c:=by
  have q:=PySem.W.cellsFrom_some sc.names n [] (.inl h)
  exact Option.isSome_iff_exists.mp q
theorem inv_start {CX:CXT} {P:Program} {w:World} {K:PySem.W.Frag} {mg:Str→Option Value} {base:Heap} {N ps:List Str} {qual:Str} {scope:Scope} {f:Addr} {cd:Value} {A:Around} {outer:List Env} {s s1:Shared} {H:Hp} {E:XK} {us:List Value} {vs:List V}
    (S:FnScope N ps scope) (hd:A.handled=none) (e0:Env0 P w K mg base A outer s H) (hl:vs.length=ps.length) (r:Vals vs us)
    (x:InCallC s s.heap.objs.size (bindL (envOfC qual scope s.heap.objs.size f cd).kindOf (ps.zip us) fun _=>none) (cellsFrom (s.heap.objs.size+1) scope.names []) (bindC (envOfC qual scope s.heap.objs.size f cd).kindOf (ps.zip us) fun _=>none) s1) :
    Inv (cxOf CX P w K mg base N qual scope f cd A outer s H E) [] (start N vs) H s1:=by
  have hpl:ps.length≤N.length:=by have:=congrArg List.length S.pre; rw [List.length_take] at this; omega
  obtain ⟨h1,tk,rfl,hk⟩:=x.done
  have noA:∀ b:Addr,b ∉ (cxOf CX P w K mg base N qual scope f cd A outer s H E).ex:=fun b z=>absurd (show b∈([]:List Addr) from z) (by simp)
  refine ⟨⟨e0.mod,S.kind,rfl,rfl,Nat.le_refl _,fun y z c h1 h2=>?_,fun y hy=>?_,fun y c _ h=>?_,fun _=>hd,Around.frames_deeper e0.frames,.inr ⟨rfl,rfl⟩,fun b z=>absurd z (noA b),e0.bs,e0.bsz,fun b _ _=>noA b,fun b z=>absurd z (noA b),e0.funs,e0.frf⟩,
    rfl,e0.bare,Un.kept hk,⟨_,x.toInCall.ns,fun i y v h1 h2 h3=>?_⟩,fun y c h=>⟨_,x.cell y c h⟩,e0.hok.fresh (Nat.le_refl _),fun y c h=>?_,fun p hp=>absurd (show p∈([]:List (Addr × Obj)) from hp) (by simp),e0.hok.kept hk,?_⟩
  · exact name_of_addr x.apart (PySem.mem_of_lookup h1) (PySem.mem_of_lookup h2)
  · have hy:scope.names.lookup y=some .cell∨scope.names.lookup y=some .free:=hy
    rcases hy with hy | hy
    · exact cell_has hy
    · exact absurd rfl (S.nofree _ (PySem.mem_of_lookup hy))
  · exact Nat.le_of_lt (x.above y c (PySem.mem_of_lookup h))
  · have hi:i < vs.length:=by
      unfold start at h2
      by_cases hi:i < vs.length
      · exact hi
      · rw [List.getElem?_append_right (by simpa using hi)] at h2
        rw [List.getElem?_replicate] at h2
        split at h2 <;> cases h2
    have ha:vs[i]?=some v:=by
      unfold start at h2
      rw [List.getElem?_append_left (by simpa using hi),List.getElem?_map] at h2
      cases e:vs[i]? with
      | none=>rw [e] at h2; cases h2
      | some a=>rw [e] at h2; cases h2; rfl
    obtain ⟨u,hu,rv⟩:=r.get ha
    have hp:ps[i]?=some y:=by
      rw [← S.pre,List.getElem?_take_of_lt (by omega)]; exact h1
    have ndP:ps.Nodup:=by rw [← S.pre]; exact S.nd.sublist (List.take_sublist _ _)
    refine ⟨u,rv,?_⟩
    rcases S.par y (List.mem_of_getElem? hp) with k | k
    · exact .inl ⟨k,bindL_get ndP hp hu k⟩
    · obtain ⟨c,e⟩:=cell_has (n:=s.heap.objs.size+1) k
      refine .inr ⟨.inl k,c,e,?_⟩
      have q:=x.cell y c e
      rw [bindC_get ndP hp hu (by show scope.names.lookup y≠_; rw [k]; decide)] at q
      exact q
  · exact e0.hok.fresh (Nat.le_of_lt (x.above y c (PySem.mem_of_lookup h)))
  · unfold start
    show _=N.length
    rw [List.length_append,List.length_map,List.length_replicate]
    omega
theorem fn_of {CX:CXT} {P:Program} {w:World} {K:PySem.W.Frag} {mg:Str→Option Value} {base:Heap} {k:Nat} {f:Addr} {name qual:Str} {params:Arguments} {body:List Stmt} {scope:Scope} {dV kV doc pm cdv ct oc:Value} {an od:Option Addr}
    {osl:Array (Option Value)} {N ps:List Str} {sp:Sp} (lk:K.lookup f=some ⟨oc,od,.func (PySem.W.fnOf name qual params body scope dV kV doc pm an cdv ct),osl⟩) (hcd:PySem.W.codeIn K cdv qual=true) (S:FnScope N ps scope)
    (len:∀ vs H Q E,sp vs H Q E→vs.length=ps.length)
    (hbody:∀ (A:Around) (outer:List Env) (s:Shared) (H:Hp) (vs:List V) (Q:VK) (E:XK),Room k (A.deeper (envOfC qual scope s.heap.objs.size f cdv))→sp vs H Q E →
      ∃ t,PSs (cxOf CX P w K mg base N qual scope f cdv A outer s H E) body t∧t { nx:=fun _ H'=>Q .non H',rt:=Q } (start N vs) H) :
    FnOk P w K mg base CX (k+1) f (PySem.W.fnOf name qual params body scope dV kV doc pm an cdv ct) ps sp:=by
  refine ⟨len,fun A outer s H args us vs Q E hr e0 hb r hsp=>?_⟩
  have hl:=len _ _ _ _ hsp
  have KX:K.In s.heap:=e0.mod.kin.keeps fun b o e=>(e0.bs b o e).1
  have lim:s.heap.NoLimit:=e0.mod.nolimit.keeps fun b o e=>(e0.bs b o e).1
  have hkind:∀ y∈ps.zip us,scope.names.lookup y.1=some .local∨(scope.names.lookup y.1=some .cell∧((cellsFrom (s.heap.objs.size+1) scope.names []).lookup y.1).isSome=true):=fun ⟨n,v⟩ hy=>by
    rcases S.par n (List.of_mem_zip hy).1 with q | q
    · exact .inl q
    · exact .inr ⟨q,PySem.W.cellsFrom_some _ _ _ (.inl q)⟩
  refine codeAny_call_function hr.depth (KX _ _ lk) rfl S.co S.gen rfl (PySem.W.codeRec_of KX hcd) (hb _ _ _ _ ?_)
  refine wpAny_newFunctionEnv_cells S.kind hkind fun env he s1 x=>?_
  subst he
  refine ⟨lim.keeps x.toInCall.keep,codeAny_func ?_⟩
  obtain ⟨t,ht,hq⟩:=hbody A outer s H vs Q E (hr.deeper _) hsp
  have I:Inv (cxOf CX P w K mg base N qual scope f cdv A outer s H E) [] (start N vs) H s1:=inv_start S hr.hd e0 hl r x
  refine wpAny_mono (ht [] s1 (start N vs) H _ I hq) (fun fl s' hs=>?_) fun e s' hs=>hs
  have fin:∀ {σ':St} {H':Hp} {v:V} {u:Value},Inv (cxOf CX P w K mg base N qual scope f cdv A outer s H E) [] σ' H' s'→RelV v u→Q v H'→CE outer P w H s Q u s' :=
    fun {σ' H' v u} J rv q=>⟨v,H',J.os,J.bare,J.base,J.hok,rv,q⟩
  cases fl with
  | ret u =>
    obtain ⟨v,σ',H',J,rv,q⟩:=hs
    exact fin J rv q
  | next =>
    obtain ⟨σ',H',J,q⟩:=hs
    exact fin (v:=V.non) (u:=Value.none) J rfl q
  | brk =>
    obtain ⟨_,_,_,q⟩:=hs
    exact False.elim q
  | cont =>
    obtain ⟨_,_,_,q⟩:=hs
    exact False.elim q
end L2
namespace L2
open PySem PySem.Spec PyProof.Rows
section
variable {X:Cx} {x:Str} {p pos:Pos} {e:Expr} {es:List Expr} {t:TA} {id T:String} {r:List V→Hp→VK→Prop}
def tCB (r:List V→Hp→VK→Prop) (t:TA):TE:=fun σ H Q=>t σ H fun vs H1=>r vs H1 Q
theorem pe_callB (hc:CallR X (.builtin id) r) (hg:Gl X x) (hm:X.mg x=none) (hv:bootBuiltins x=some (.builtin id)) (ha:PA X (e :: es) t) (hn:x ≠ "__name__":=by decide) (hdb:(x == ("__debug__" : Str))=false:=by decide)
    (he:starEach (e :: es) X.env=(false,eval e X.env) :: starEach es X.env:=by rfl) (hpl:(backTo pos (starEach es X.env)).any (·.1)=false:=by rfl):PE X (.Call (.Name x p) (e :: es) [] pos) (tCB r t):=by
  intro pins s σ H Q I h
  refine wpAny_Call_Name_kw (ld_blt I hg hm hv ?_ hn hdb)
  exact PyProof.Rows.callWith_builtin1 (thn (ha pos pins s σ H _ I h) fun us s1 ⟨vs,H1,I1,r1,q1⟩=>hc pins s1 σ H1 vs us Q I1 r1 q1) he hpl
theorem pe_callTy (hc:CallR X (.type T) r) (hg:Gl X x) (hm:X.mg x=none) (hv:bootBuiltins x=some (.type T)) (ha:PA X (e :: es) t) (hn:x ≠ "__name__":=by decide) (hdb:(x == ("__debug__" : Str))=false:=by decide)
    (he:starEach (e :: es) X.env=(false,eval e X.env) :: starEach es X.env:=by rfl) (hpl:(backTo pos (starEach es X.env)).any (·.1)=false:=by rfl):PE X (.Call (.Name x p) (e :: es) [] pos) (tCB r t):=by
  intro pins s σ H Q I h
  refine wpAny_Call_Name_kw (ld_blt I hg hm hv ?_ hn hdb)
  exact PyProof.Rows.callWith_type1 (thn (ha pos pins s σ H _ I h) fun us s1 ⟨vs,H1,I1,r1,q1⟩=>hc pins s1 σ H1 vs us Q I1 r1 q1) he hpl
end
end L2
namespace HT
open PySem PyProof.Rows
section
open PySem.SeqAt
open PySem.AutoSeq1 (wpAny_loadPart')
open PySem.MeetsSeq PySem.MeetsSeq2 PySem.MeetsSeq3
end
section
variable {prog:Program} {w:World} {A:Around} {E:Value→Shared→Prop} {s:Shared}
theorem cat_tup {t b:Addr} {vs ws:List Value} {Q:Value→Shared→Prop} (ht:IsTup s.heap t vs.toArray) (hb:IsTup s.heap b ws.toArray) (hv:vs≠[])
    (h1:ws=[]→Q (.ref t) s) (h2:ws≠[]→Q (.ref s.heap.objs.size) { s with heap:=s.heap.push { cls:=.type "tuple",data:=.seq (vs++ws).toArray } })
    (hsz:vs.length+ws.length≤sizeLine):wpAny (model prog w) A (binaryOp .Add (.ref t) (.ref b)) Q E s:=by
  obtain ⟨⟨cls,dd,data,sl⟩,ho,hc,n,hd⟩:=id ht
  obtain ⟨⟨cls2,dd2,data2,sl2⟩,ho2,hc2,n2,hd2⟩:=id hb
  simp only at hc hd hc2 hd2
  subst hc hd hc2 hd2
  have e:vs.toArray++ws.toArray=(vs++ws).toArray:=by simp
  by_cases hw:ws=[]
  · exact concat_meets ⟨_,ho,rfl⟩ ⟨_,ho2,rfl⟩ noFill_tuple_add seq_tuple_add PySem.F.slot_tuple_add PySem.F.entry_tuple_add (PySem.F.args_tuple_add_2 _ _)
      (tuple_addW1 t b vs.toArray ws.toArray n n2 dd dd2 sl sl2 (by simpa using hv) (by simp [hw])) ⟨ho,ho2,h1 hw⟩
  · refine concat_meets ⟨_,ho,rfl⟩ ⟨_,ho2,rfl⟩ noFill_tuple_add seq_tuple_add PySem.F.slot_tuple_add PySem.F.entry_tuple_add (PySem.F.args_tuple_add_2 _ _)
      (tuple_addW2 t b vs.toArray ws.toArray n n2 dd dd2 sl sl2 (by simpa using hv) (by simpa using hw) (by rw [List.size_toArray,List.size_toArray]; exact hsz)) ⟨ho,ho2,?_⟩
    rw [e]
    exact h2 hw
def sIx (n d:Nat):Option Int→Nat
  | none=>d
  | some v=>if v < 0 then (v+(n:Int)).toNat else min v.toNat n
theorem sIx_none (n d:Nat):sIx n d none=d:=rfl
theorem sIx_nat (n d k:Nat):sIx n d (some (k:Int))=min k n:=by
  show (if (k:Int) < 0 then ((k:Int)+(n:Int)).toNat else min (k:Int).toNat n)=min k n
  rw [if_neg (by omega),Int.toNat_natCast]
theorem sIx_le (n d:Nat) (hd:d≤n) (o:Option Int):sIx n d o≤n:=by
  cases o with
  | none=>exact hd
  | some v =>
    show (if v < 0 then (v+(n:Int)).toNat else min v.toNat n)≤n
    by_cases hv:v < 0
    · rw [if_pos hv]; omega
    · rw [if_neg hv]; exact Nat.min_le_right _ _
theorem clip_eq (v:Int) (n d:Nat):(if v < 0 then max (v+(n:Int)) 0 else min v (n:Int))=((sIx n d (some v):Nat):Int):=by
  show (if v < 0 then max (v+(n:Int)) 0 else min v (n:Int))=(((if v < 0 then (v+(n:Int)).toNat else min v.toNat n):Nat):Int)
  by_cases hv:v < 0
  · simp only [if_pos hv]; omega
  · simp only [if_neg hv]; omega
theorem adjust_gen (lo hi:Option Int) (n:Nat):Builtin.Slice.sliceAdjust lo hi 1 (n:Int)=(((sIx n 0 lo:Nat):Int),((sIx n n hi:Nat):Int)):=by
  have h1:¬ ((1:Int) < 0):=by omega
  unfold Builtin.Slice.sliceAdjust
  simp only [h1,if_false]
  refine Prod.ext ?_ ?_
  · cases lo with
    | none=>rfl
    | some v=>exact clip_eq v n 0
  · cases hi with
    | none=>rfl
    | some v=>exact clip_eq v n n
theorem places_gen (i j:Nat):Builtin.Slice.slicePlaces (i:Int) (j:Int) 1=j - i:=by
  unfold Builtin.Slice.slicePlaces
  have h1:(1:Int) > 0:=by omega
  simp only [h1,if_true,Int.ediv_one]
  split <;> omega
theorem slicePart_ {v:Value} {o:Option Int} {Q:Option Int→Shared→Prop} (p:IsPart v o) (h:Q o s):wpAny (model prog w) A (Builtin.Slice.slicePartIndex v) Q E s:=by
  cases p with
  | none=>exact slicePart_none h
  | int i t=>exact slicePart_int h
theorem sliceApplied_gen {sl:Addr} {vl vu:Value} {lo hi:Option Int} {n:Nat} {Q:Int × Int × Nat→Shared→Prop} (hs:s.heap.IsSliceOf sl vl vu .none) (pl:IsPart vl lo) (pu:IsPart vu hi)
    (h:Q (((sIx n 0 lo:Nat):Int),1,sIx n n hi - sIx n 0 lo) s):wpAny (model prog w) A (Builtin.Slice.sliceApplied (.ref sl) (pure (n:Int))) Q E s:=by
  obtain ⟨os,hos,hcs,hds⟩:=id hs
  unfold Builtin.Slice.sliceApplied Builtin.Slice.sliceFields
  refine wpAny_bind (wpAny_bind (wpAny_field hos hds (x:=vl) rfl (wpAny_bind (wpAny_field hos hds (x:=vu) rfl (wpAny_bind (wpAny_field hos hds (x:=.none) rfl (wpAny_pure ?_)))))))
  refine wpAny_bind (slicePart_none ?_)
  show wpAny _ _ (if ((1:Int) == 0)=true then _ else _) _ _ s
  rw [if_neg (by decide)]
  refine wpAny_bind (slicePart_ pl (wpAny_bind (slicePart_ pu (wpAny_bind (wpAny_pure ?_)))))
  show wpAny _ _ (match Builtin.Slice.sliceAdjust lo hi 1 (n:Int) with | (lo,hi)=>pure (lo,(1:Int),Builtin.Slice.slicePlaces lo hi 1)) _ _ s
  rw [adjust_gen lo hi n]
  show wpAny _ _ (pure (((sIx n 0 lo:Nat):Int),(1:Int),Builtin.Slice.slicePlaces ((sIx n 0 lo:Nat):Int) ((sIx n n hi:Nat):Int) 1)) _ _ s
  rw [places_gen]
  exact wpAny_pure h
theorem pick_gen (xs:Array Value) (i k:Nat):((List.range k).filterMap fun (m:Nat)=>xs[((i:Int)+(m:Int) * 1).toNat]?).toArray=((xs.toList.drop i).take k).toArray:=by
  have e:(fun (m:Nat)=>xs[((i:Int)+(m:Int) * 1).toNat]?)=fun m=>xs[i+m]?:=by
    funext m
    have:((i:Int)+(m:Int) * 1).toNat=i+m:=by omega
    rw [this]
  rw [e]
  have:=pick_run xs i k
  rw [List.filterMap_map] at this
  have e2:((fun x=>xs[x]?) ∘ fun x=>i+x)=fun m=>xs[i+m]?:=rfl
  rw [e2] at this
  rw [this]
theorem getItem_tuple_cut {t sl:Addr} {items:Array Value} {vl vu:Value} {lo hi:Option Int} {Q:Value→Shared→Prop} (ht:IsTup s.heap t items) (hs:s.heap.IsSliceOf sl vl vu .none) (pl:IsPart vl lo) (pu:IsPart vu hi)
    (hw:¬ (sIx items.size 0 lo=0∧sIx items.size items.size hi=items.size))
    (h:Q (.ref s.heap.objs.size) { s with heap:=s.heap.push { cls:=.type "tuple",data:=.seq ((items.toList.drop (sIx items.size 0 lo)).take (sIx items.size items.size hi - sIx items.size 0 lo)).toArray } })
    (hsz:items.size≤sizeLine):wpAny (model prog w) A (getItem (.ref t) (.ref sl)) Q E s:=by
  have htake:sizeOk (.seq ((items.toList.drop (sIx items.size 0 lo)).take (sIx items.size items.size hi - sIx items.size 0 lo)).toArray):=by
    show ((items.toList.drop (sIx items.size 0 lo)).take (sIx items.size items.size hi - sIx items.size 0 lo)).toArray.size≤sizeLine
    rw [List.size_toArray,List.length_take,List.length_drop,Array.length_toList]
    omega
  have hj:sIx items.size items.size hi≤items.size:=sIx_le _ _ (Nat.le_refl _) hi
  obtain ⟨os,hos,hcs,hds⟩:=id hs
  have hTs:s.TypeIs (.ref sl) "slice":=⟨os,hos,hcs⟩
  unfold getItem
  try with_reducible refine wpAny_holding ?_
  first | refine wpAny_bind (wpAny_pure ?_) | skip
  refine wpAny_bind (wpAny_sequenceKey ht.typeIs (by decide) ?_)
  refine wpAny_bind (wpAny_callSpecial?_slot (name:=Str.ofString "__getitem__") ht.typeIs PyProof.Rows.slot_tuple_getitem
    (wpAny_call_entry PyProof.Rows.slot_tuple_getitem ht.typeIs entry_tuple_getitem ?_ (args_tuple_getitem _ _)))
  show wpAny _ _ (Builtin.Tuple.tupleItemsOf (.ref t) >>= _) _ _ s
  refine wpAny_bind (tupleItemsOf_ ht ?_)
  refine wpAny_bind (wpAny_typeOf hTs ?_)
  rw [if_pos (by decide)]
  refine wpAny_bind (sliceApplied_gen hs pl pu ?_)
  have hno:¬ ((((sIx items.size 0 lo:Nat):Int) == 0 && (1:Int) == 1 && (sIx items.size items.size hi - sIx items.size 0 lo) == items.size)=true):=by
    intro q
    rw [Bool.and_eq_true,Bool.and_eq_true] at q
    have q1:((sIx items.size 0 lo:Nat):Int)=0:=eq_of_beq q.1.1
    have q2:sIx items.size items.size hi - sIx items.size 0 lo=items.size:=eq_of_beq q.2
    exact hw ⟨by omega,by omega⟩
  show wpAny _ _ (if (((sIx items.size 0 lo:Nat):Int) == 0 && (1:Int) == 1 && (sIx items.size items.size hi - sIx items.size 0 lo) == items.size)=true then _ else _) _ _ s
  rw [if_neg hno,pick_gen]
  first
    | exact wpAny_bind (m:=Builtin.Tuple.tupleExact _) (wpAny_newObj_type (wpAny_pure ⟨_,rfl,wpAny_pure h⟩) htake)
    | exact wpAny_bind (m:=Builtin.Tuple.tupleExact _) (wpAny_newObj_type (wpAny_bind (wpAny_pure (wpAny_pure ⟨_,rfl,wpAny_pure h⟩))) htake)
    | exact wpAny_bind (wpAny_bind (m:=Builtin.Tuple.tupleExact _) (wpAny_newObj_type (wpAny_pure (wpAny_pure ⟨_,rfl,wpAny_pure h⟩)) htake))
    | exact wpAny_bind (wpAny_bind (m:=Builtin.Tuple.tupleExact _) (wpAny_newObj_type (wpAny_pure ⟨_,rfl,wpAny_pure h⟩) htake))
end
end HT
namespace L2
open PySem PySem.Spec PyProof.Rows
abbrev TO:=St→Hp→(Option Int→Hp→Prop)→Prop
def PO (X:Cx) (e:Option Expr) (t:TO):Prop :=
  ∀ (pins:List (Addr × Obj)) (s:Shared) (σ:St) (H:Hp) (Q:Option Int→Hp→Prop),Inv X pins σ H s→t σ H Q →
    wpAny (model X.prog X.w) X.A (evalPart e X.env) (fun u s'=>∃ o H',Inv X pins σ H' s'∧IsPart u o∧Q o H') X.xe s
def tNoPart:TO:=fun _ H Q=>Q none H
def tPart (t:TE):TO:=fun σ H Q=>t σ H fun x H1=>∃ i,x=.int i∧Q (some i) H1
section
variable {X:Cx} {e:Expr} {te:TE} {lo hi:Option Expr} {tl th:TO} {pos p2:Pos}
theorem po_none:PO X none tNoPart:=by
  intro pins s σ H Q I h
  rw [evalPart_none]
  exact wpAny_pure ⟨none,H,I,.none,h⟩
theorem po_some (h:PE X e te):PO X (some e) (tPart te):=by
  intro pins s σ H Q I hw
  rw [evalPart_some]
  refine thn (h pins s σ H _ I hw) fun u s1 ⟨x,H1,I1,r1,q1⟩=>?_
  obtain ⟨i,rfl,q⟩:=q1
  obtain ⟨t,rfl⟩:=r1
  exact ⟨some i,H1,I1,.int i t,q⟩
def SlR (X:Cx) (r:V→Option Int→Option Int→Hp→VK→Prop):Prop :=
  ∀ (pins:List (Addr × Obj)) (s:Shared) (σ:St) (H:Hp) (x:V) (v vl vu:Value) (lo hi:Option Int) (sl:Addr) (Q:VK),Inv X pins σ H s→RelV x v→s.heap.IsSliceOf sl vl vu .none→IsPart vl lo→IsPart vu hi→r x lo hi H Q →
    ∃ T id,typeLookup (.type T) "__getitem__" = pure (some (.builtin id))∧s.TypeIs v T∧wpAny (model X.prog X.w) X.A (getItem v (.ref sl)) (EP X pins σ Q) X.xe s
def tSl (r:V→Option Int→Option Int→Hp→VK→Prop) (te:TE) (tl th:TO):TE:=fun σ H Q=>te σ H fun x H1=>tl σ H1 fun l H2=>th σ H2 fun u H3=>r x l u H3 Q
theorem pe_slice {r:V→Option Int→Option Int→Hp→VK→Prop} (hr:SlR X r) (he:PE X e te) (hl:PO X lo tl) (hu:PO X hi th):PE X (.Subscript e (.Slice lo hi none p2) pos) (tSl r te tl th):=by
  intro pins s σ H Q I h
  refine Subscript_ (thn (he pins s σ H _ I h) fun v s1 ⟨x,H1,I1,r1,q1⟩=>?_)
  refine wpAny_Slice (thn (hl pins s1 σ H1 _ I1 q1) fun vl s2 ⟨l,H2,I2,pl,q2⟩=>thn (hu pins s2 σ H2 _ I2 q2) fun vu s3 ⟨u,H3,I3,pu,q3⟩=>?_)
  rw [evalPart_none]
  refine wpAny_pure ?_
  have I4:Inv X pins σ H3 { s3 with heap:=s3.heap.push { cls:=.type "slice",data:=.fields #[vl,vu,.none] } }:=I3.kept (t':=s3.toks) fun b ob q=>Heap.get?_push_of_some _ q
  obtain ⟨T,id,hT,ht,hg⟩:=hr pins { s3 with heap:=s3.heap.push { cls:=.type "slice",data:=.fields #[vl,vu,.none] } } σ H3 x v vl vu l u s3.heap.objs.size Q I4 r1 (Heap.IsSliceOf.new ..) pl pu q3
  show wpAny (model X.prog X.w) X.A (subscriptTail e (.Slice lo hi none p2) v (.ref s3.heap.objs.size)) (EP X pins σ Q) X.xe { s3 with heap:=s3.heap.push { cls:=.type "slice",data:=.fields #[vl,vu,.none] } }
  exact tail_any (ops:=[.ref s3.heap.objs.size,v]) ht hT hg (by with_unfolding_all rfl)
def cutV (xs:List V) (lo hi:Option Int):List V:=(xs.drop (HT.sIx xs.length 0 lo)).take (HT.sIx xs.length xs.length hi - HT.sIx xs.length 0 lo)
theorem cutV_length (xs:List V) (lo hi:Option Int):(cutV xs lo hi).length≤xs.length:=by
  unfold cutV
  rw [List.length_take,List.length_drop]
  omega
def rSlT (K:PySem.W.Frag):V→Option Int→Option Int→Hp→VK→Prop:=fun x lo hi H Q=>∃ a xs,x=.ref a∧SqT K H a xs ∧
  ¬ (HT.sIx xs.length 0 lo=0∧HT.sIx xs.length xs.length hi=xs.length)∧∀ p,H p=none→Q (.ref p) (upd H p (.tup (cutV xs lo hi)))
theorem sl_tup:SlR X (rSlT X.K):=by
  intro pins s σ H x v vl vu lo hi sl Q I rx hs pl pu h
  obtain ⟨a,xs,rfl,hx,hw,q⟩:=h
  cases rx
  obtain ⟨its,r,ht,hz⟩:=I.tuple hx
  have hlen:its.toArray.size=xs.length:=by rw [List.size_toArray]; exact r.length.symm
  refine ⟨"tuple",_,PyProof.Rows.slot_tuple_getitem.lookup,ht.typeIs,?_⟩
  refine HT.getItem_tuple_cut ht hs pl pu (by rw [hlen]; exact hw) ?_ (by rw [hlen]; exact hz)
  rw [hlen]
  refine ⟨.ref s.heap.objs.size,_,I.laid (t':=s.toks) (o:=.tup (cutV xs lo hi)) (fun b ob q=>Heap.get?_push_of_some _ q) (Nat.le_refl _) ?_,rfl,q _ (I.hok.fresh (Nat.le_refl _))⟩
  exact ⟨Nat.le_trans (cutV_length xs lo hi) hz,_,(r.drop (HT.sIx xs.length 0 lo)).take (HT.sIx xs.length xs.length hi - HT.sIx xs.length 0 lo),IsTup.new _ _⟩
def rCatT (K:PySem.W.Frag):R2:=fun x y H Q=>∃ a b xs ys,x=.ref a∧y=.ref b∧SqT K H a xs∧SqT K H b ys∧xs≠[]∧xs.length+ys.length≤sizeLine ∧
  (ys=[]→Q (.ref a) H)∧(ys≠[]→∀ p,H p=none→Q (.ref p) (upd H p (.tup (xs++ys))))
theorem Vals.nil_iff {xs:List V} {us:List Value} (r:Vals xs us):us=[]↔xs=[]:=by
  cases r with
  | nil=>simp
  | cons _ _=>simp
theorem op_catT:OpR X (binaryOp .Add) (rCatT X.K):=by
  intro pins s σ H x y v u Q I rx ry h
  obtain ⟨a,b,xs,ys,rfl,rfl,ha,hb,hx,hz,q1,q2⟩:=h
  cases rx
  cases ry
  obtain ⟨its,r1,p1,_⟩:=I.tuple ha
  obtain ⟨its2,r2,p2,_⟩:=I.tuple hb
  refine HT.cat_tup p1 p2 (fun z=>hx (r1.nil_iff.mp z)) (fun z=>⟨.ref a,H,I,rfl,q1 (r2.nil_iff.mp z)⟩) (fun z=>?_) (by rw [← r1.length,← r2.length]; exact hz)
  refine ⟨.ref s.heap.objs.size,_,I.laid (t':=s.toks) (o:=.tup (xs++ys)) (fun b ob q=>Heap.get?_push_of_some _ q) (Nat.le_refl _) ?_,rfl,q2 (fun w=>z (r2.nil_iff.mpr w)) _ (I.hok.fresh (Nat.le_refl _))⟩
  exact ⟨by rw [List.length_append]; exact hz,_,r1.append r2,IsTup.new _ _⟩
end
end L2
namespace L2
open PySem PySem.Spec PyProof.Rows
def ixN (n:Nat) (i:Int):Option Nat:=if 0≤i then (if i < n then some i.toNat else none) else if -(n:Int)≤i then some (i+n).toNat else none
def atI {α:Type} (xs:List α) (i:Int):Option α:=(ixN xs.length i).bind fun j=>xs[j]?
theorem ixN_seq {n:Nat} {i:Int} {j:Nat} (h:ixN n i=some j):seqIndex? i n=some j∧j < n∧-(n:Int)≤i∧i < n:=by
  unfold ixN at h
  by_cases h0:0≤i
  · rw [if_pos h0] at h
    by_cases h1:i < n
    · rw [if_pos h1] at h
      have e:i.toNat=j:=Option.some.inj h
      exact ⟨by rw [seqIndex_of h0 h1,e],by omega,by omega,h1⟩
    · rw [if_neg h1] at h; cases h
  · rw [if_neg h0] at h
    by_cases h1:-(n:Int)≤i
    · rw [if_pos h1] at h
      have e:(i+n).toNat=j:=Option.some.inj h
      exact ⟨by rw [seqIndex_neg (by omega) h1,e],by omega,h1,by omega⟩
    · rw [if_neg h1] at h; cases h
theorem atI_get {α:Type} {xs:List α} {i:Int} {v:α} (h:atI xs i=some v):∃ j,seqIndex? i xs.length=some j∧xs[j]?=some v∧j < xs.length∧-(xs.length:Int)≤i∧i < xs.length:=by
  unfold atI at h
  cases e:ixN xs.length i with
  | none=>rw [e] at h; cases h
  | some j =>
    rw [e] at h
    obtain ⟨h1,h2,h3,h4⟩:=ixN_seq e
    exact ⟨j,h1,h,h2,h3,h4⟩
theorem atI_nat {α:Type} {xs:List α} {j:Nat} {v:α} (h:xs[j]?=some v):atI xs (j:Int)=some v:=by
  have hj:j < xs.length:=(List.getElem?_eq_some_iff.mp h).1
  have e:ixN xs.length (j:Int)=some j:=by
    unfold ixN
    rw [if_pos (by omega),if_pos (by omega)]; simp
  unfold atI; rw [e]; exact h
def PlainIx (b:Expr):Prop:=∀ o i,subscripted b false o i=operate [o,i] (getItem o i)
def IxR (X:Cx) (r:R2):Prop :=
  ∀ (value slice:Expr) (pins:List (Addr × Obj)) (s:Shared) (σ:St) (H:Hp) (x y:V) (v u:Value) (Q:VK),Inv X pins σ H s→RelV x v→RelV y u→r x y H Q →
    subscripted slice false v u=operate [v,u] (getItem v u)→wpAny (model X.prog X.w) X.A (subscriptTail value slice v u) (EP X pins σ Q) X.xe s
def MtR (X:Cx) (id:String) (r:V→List V→Hp→VK→Prop):Prop :=
  ∀ (pins:List (Addr × Obj)) (s:Shared) (σ:St) (H:Hp) (x:V) (xs:List V) (v:Value) (us:List Value) (Q:VK),Inv X pins σ H s→RelV x v→Vals xs us→r x xs H Q →
    wpAny (model X.prog X.w) X.A (call (.builtin id) (v :: us)) (EP X pins σ Q) X.xe s
section
variable {X:Cx} {a b:Expr} {ta tb:TE} {pos:Pos}
theorem pe_ix {r:R2} (hr:IxR X r) (ha:PE X a ta) (hb:PE X b tb) (hs:PlainIx b):PE X (.Subscript a b pos) (tOp r ta tb):=by
  intro pins s σ H Q I h
  exact Subscript_ (binT ha hb I h fun v u s2 x y H2 I2 rx ry q=>hr a b pins s2 σ H2 x y v u Q I2 rx ry q (hs _ _))
def rIxL (K:PySem.W.Frag):R2:=fun x y H Q=>∃ p xs i v,x=.ref p∧y=.int i∧SqL K H p xs∧atI xs i=some v∧Q v H
def rIxT (K:PySem.W.Frag):R2:=fun x y H Q=>∃ p xs i v,x=.ref p∧y=.int i∧SqT K H p xs∧atI xs i=some v∧Q v H
def rIxS:R2:=fun x y H Q=>∃ z i c,x=.str z∧y=.int i∧z.length≤sizeLine∧atI z.cps.toList i=some c∧Q (.str ⟨#[c]⟩) H
theorem ix_list:IxR X (rIxL X.K):=by
  intro value slice pins s σ H x y v u Q I rx ry h hs
  obtain ⟨p,xs,i,z,rfl,rfl,hq,he,q⟩:=h
  cases rx
  obtain ⟨t,rfl⟩:=ry
  obtain ⟨its,r,pl,hz⟩:=I.list hq
  obtain ⟨j,h1,h2,h3,h4,h5⟩:=atI_get he
  obtain ⟨w,ew,rw'⟩:=r.get h2
  have hl:=r.length
  have hn:=line63
  have fin:EP X pins σ Q w s:=⟨z,H,I,rw',q⟩
  by_cases h0:0≤i
  · have hj:i.toNat=j:=by
      rw [seqIndex_of h0 h5] at h1
      exact Option.some.inj h1
    exact item_listR pl.isList h0 (by omega) (by rw [hj]; simpa using ew) fin hs
  · have hj:(i+(its.toArray.size:Int)).toNat=j:=by
      rw [seqIndex_neg (by omega) h4] at h1
      rw [List.size_toArray,← hl]
      exact Option.some.inj h1
    exact subscriptTail_builtinR (x:=w) pl.isList.typeIs slot_list_getitem.lookup
      (wpAny_getItem_list_neg (Q:=fun r s'=>r=w∧EP X pins σ Q r s') pl.isList (by omega) (by rw [List.size_toArray] <;> omega) (by omega) (by rw [hj]; simpa using ew) ⟨rfl,fin⟩) hs
theorem ix_tup:IxR X (rIxT X.K):=by
  intro value slice pins s σ H x y v u Q I rx ry h hs
  obtain ⟨p,xs,i,z,rfl,rfl,hq,he,q⟩:=h
  cases rx
  obtain ⟨t,rfl⟩:=ry
  obtain ⟨its,r,pl,hz⟩:=I.tuple hq
  obtain ⟨j,h1,h2,h3,h4,h5⟩:=atI_get he
  obtain ⟨w,ew,rw'⟩:=r.get h2
  have hl:=r.length
  have hn:=line63
  have fin:EP X pins σ Q w s:=⟨z,H,I,rw',q⟩
  exact subscriptTail_builtinR (x:=w) pl.typeIs slot_tuple_getitem.lookup
    (getItem_tuple (j:=j) (Q:=fun r s'=>r=w∧EP X pins σ Q r s') pl (by omega) (by omega) (by rw [List.size_toArray,← hl]; exact h1) (by simpa using ew) ⟨rfl,fin⟩) hs
theorem ix_str:IxR X rIxS:=by
  intro value slice pins s σ H x y v u Q I rx ry h hs
  obtain ⟨z,i,c,rfl,rfl,hz,he,q⟩:=h
  obtain ⟨t,rfl⟩:=rx
  obtain ⟨t',rfl⟩:=ry
  obtain ⟨j,h1,h2,h3,h4,h5⟩:=atI_get he
  have hl:z.cps.toList.length=z.length:=by simp [Str.length]
  rw [hl] at h1 h4 h5
  have hn:=line63
  exact tail_any (typeIs_str s z t) slot_str_getitem.lookup (getItem_str (c:=c) (by
    have e1:decide (i < -(2 ^ 63:Int))=false:=decide_eq_false (by omega)
    have e2:decide (i ≥ 2 ^ 63)=false:=decide_eq_false (by omega)
    rw [e1,e2,Bool.or_false]) (by rw [h1]; simpa using h2) ⟨.str ⟨#[c]⟩,H,I.tok _,⟨_,rfl⟩,q⟩) hs
theorem slice_bounds (lo hi:Option Int) (n:Nat):(sliceBounds lo hi none n).1=((HT.sIx n 0 lo:Nat):Int)∧(sliceBounds lo hi none n).2.1=((HT.sIx n n hi:Nat):Int)∧(sliceBounds lo hi none n).2.2=1:=by
  refine ⟨?_,?_,rfl⟩
  · cases lo with
    | none=>simp [sliceBounds,HT.sIx]
    | some i =>
      simp only [sliceBounds,HT.sIx,Option.getD_none,show (1:Int) > 0 by decide,if_true]
      by_cases h:i < 0
      · simp only [h,if_true] <;> omega
      · simp only [h,if_false] <;> omega
  · cases hi with
    | none=>simp [sliceBounds,HT.sIx]
    | some i =>
      simp only [sliceBounds,HT.sIx,Option.getD_none,show (1:Int) > 0 by decide,if_true]
      by_cases h:i < 0
      · simp only [h,if_true] <;> omega
      · simp only [h,if_false] <;> omega
theorem slicePick_cut (its:List Value) (lo hi:Option Int):slicePick its.toArray lo hi none=((its.drop (HT.sIx its.length 0 lo)).take (HT.sIx its.length its.length hi - HT.sIx its.length 0 lo)).toArray:=by
  obtain ⟨h1,h2,h3⟩:=slice_bounds lo hi its.toArray.size
  unfold slicePick
  rw [h1,h2,h3]
  simp only [sliceRange_one,pick_run,List.size_toArray] <;> rfl
def rSlL (K:PySem.W.Frag):V→Option Int→Option Int→Hp→VK→Prop:=fun x lo hi H Q=>∃ a xs,x=.ref a∧SqL K H a xs∧∀ p,H p=none→Q (.ref p) (upd H p (.lst (cutV xs lo hi)))
theorem sl_list:SlR X (rSlL X.K):=by
  intro pins s σ H x v vl vu lo hi sl Q I rx hs pl pu h
  obtain ⟨a,xs,rfl,hx,q⟩:=h
  cases rx
  obtain ⟨its,r,ht,hz⟩:=I.list hx
  have hlen:=r.length
  refine ⟨"list",_,slot_list_getitem.lookup,ht.isList.typeIs,?_⟩
  refine wpAny_getItem_list_slice ht.isList hs pl pu .none (by simp) ?_ (by rw [List.size_toArray] <;> omega)
  rw [slicePick_cut,← hlen]
  refine ⟨.ref s.heap.objs.size,_,I.laid (t':=s.toks) (o:=.lst (cutV xs lo hi)) (fun b ob q=>Heap.get?_push_of_some _ q) (Nat.le_refl _) ?_,rfl,q _ (I.hok.fresh (Nat.le_refl _))⟩
  exact ⟨Nat.le_trans (cutV_length xs lo hi) hz,_,0,(r.drop (HT.sIx xs.length 0 lo)).take (HT.sIx xs.length xs.length hi - HT.sIx xs.length 0 lo),Heap.get?_push_size _ rfl⟩
def flatV:V→Bool
  | .non=>true
  | .bl _=>true
  | .int _=>true
  | .str _=>true
  | _=>false
def eqV:V→V→Bool
  | .non,.non=>true
  | .bl a,.bl b=>a == b
  | .bl a,.int b=>(if a then 1 else 0) == b
  | .int a,.bl b=>a == (if b then 1 else 0)
  | .int a,.int b=>a == b
  | .str a,.str b=>a == b
  | _,_=>false
theorem eqAt_V {A:Around} {s:Shared} {y x:V} {u v:Value} (ry:RelV y u) (rx:RelV x v) (fy:flatV y=true) (fx:flatV x=true):SeqAt.EqAt A s u v (eqV y x):=by
  cases y with
  | non =>
    cases ry
    cases x with
    | non=>cases rx; exact SeqAt.EqAt.same _
    | bl b=>cases rx; exact SeqAt.EqAt.none_bool b
    | int b=>obtain ⟨t,rfl⟩:=rx; exact SeqAt.EqAt.none_int b t
    | str b=>obtain ⟨t,rfl⟩:=rx; exact SeqAt.EqAt.none_str b t
    | _=>exact absurd (show false=true from fx) Bool.false_ne_true
  | bl a =>
    cases ry
    cases x with
    | non=>cases rx; exact SeqAt.EqAt.bool_none a
    | bl b=>cases rx; exact SeqAt.EqAt.bool_bool a b
    | int b=>obtain ⟨t,rfl⟩:=rx; exact SeqAt.EqAt.bool_int a b t
    | str b=>obtain ⟨t,rfl⟩:=rx; exact SeqAt.EqAt.bool_str a b t
    | _=>exact absurd (show false=true from fx) Bool.false_ne_true
  | int a =>
    obtain ⟨t',rfl⟩:=ry
    cases x with
    | non=>cases rx; exact SeqAt.EqAt.int_none a t'
    | bl b=>cases rx; exact SeqAt.EqAt.int_bool a t' b
    | int b=>obtain ⟨t,rfl⟩:=rx; exact SeqAt.EqAt.int_int a t' b t
    | str b=>obtain ⟨t,rfl⟩:=rx; exact SeqAt.EqAt.int_str a t' b t
    | _=>exact absurd (show false=true from fx) Bool.false_ne_true
  | str a =>
    obtain ⟨t',rfl⟩:=ry
    cases x with
    | non=>cases rx; exact SeqAt.EqAt.str_none a t'
    | bl b=>cases rx; exact SeqAt.EqAt.str_bool a t' b
    | int b=>obtain ⟨t,rfl⟩:=rx; exact SeqAt.EqAt.str_int a t' b t
    | str b=>obtain ⟨t,rfl⟩:=rx; exact SeqAt.EqAt.str_str a t' b t
    | _=>exact absurd (show false=true from fx) Bool.false_ne_true
  | _=>exact absurd (show false=true from fy) Bool.false_ne_true
def eqU (x:V) (u:Value):Bool:=match u with
  | .none=>eqV .non x
  | .bool b=>eqV (.bl b) x
  | .int i _=>eqV (.int i) x
  | .str z _=>eqV (.str z) x
  | _=>false
theorem eqU_of {x y:V} {u:Value} (r:RelV y u) (f:flatV y=true):eqU x u=eqV y x:=by
  cases y with
  | non=>cases r; rfl
  | bl b=>cases r; rfl
  | int i=>obtain ⟨t,rfl⟩:=r; rfl
  | str z=>obtain ⟨t,rfl⟩:=r; rfl
  | _=>exact absurd (show false=true from f) Bool.false_ne_true
theorem any_eqU {x:V}:∀ {xs:List V} {us:List Value},Vals xs us→xs.all flatV=true→us.any (eqU x)=xs.any fun y=>eqV y x
  | _,_,.nil,_=>rfl
  | y :: xs,u :: us,.cons r t,f=>by
    rw [List.all_cons,Bool.and_eq_true] at f
    rw [List.any_cons,List.any_cons,eqU_of r f.1,any_eqU t f.2]
theorem mem_eqAt {A:Around} {s:Shared} {x:V} {v:Value} (rx:RelV x v) (fx:flatV x=true):∀ {xs:List V} {us:List Value},Vals xs us→xs.all flatV=true→∀ u∈us,SeqAt.EqAt A s u v (eqU x u)
  | _,_,.nil,_=>fun u hu=>by cases hu
  | y :: xs,u :: us,.cons r t,f=>fun u' hu=>by
    rw [List.all_cons,Bool.and_eq_true] at f
    rcases List.mem_cons.mp hu with rfl | hu
    · rw [eqU_of r f.1]; exact eqAt_V r rx f.1 fx
    · exact mem_eqAt rx fx t f.2 u' hu
def inV (x:V) (xs:List V):Bool:=xs.any fun y=>eqV y x
def rIn (K:PySem.W.Frag) (neg:Bool):R2:=fun x y H Q=>∃ p xs,y=.ref p∧(SqL K H p xs∨SqT K H p xs)∧flatV x=true∧xs.all flatV=true∧Q (.bl (if neg then !inV x xs else inV x xs)) H
theorem op_in_seq:OpR X (compareOp .In) (rIn X.K false):=by
  intro pins s σ H x y v u Q I rx ry h
  obtain ⟨p,xs,rfl,hq,fx,fs,q⟩:=h
  cases ry
  rcases hq with hq | hq
  · obtain ⟨its,r,pl,hz⟩:=I.list hq
    refine SeqAt.in_listAt (eqU x) pl.isList (fun w hw=>mem_eqAt rx fx r fs w (by simpa using hw)) ⟨.bl _,H,I,rfl,?_⟩
    rw [show its.toArray.any (eqU x)=its.any (eqU x) by simp,any_eqU r fs]
    exact q
  · obtain ⟨its,r,pl,hz⟩:=I.tuple hq
    refine SeqAt.in_tupleAt (eqU x) pl (fun w hw=>mem_eqAt rx fx r fs w (by simpa using hw)) ⟨.bl _,H,I,rfl,?_⟩
    rw [show its.toArray.any (eqU x)=its.any (eqU x) by simp,any_eqU r fs]
    exact q
theorem call_len_seq:CallR X (.builtin "len") (fun xs H Q=>∃ p ys,xs=[.ref p]∧(SqL X.K H p ys∨SqT X.K H p ys)∧Q (.int ys.length) H):=by
  intro pins s σ H xs us Q I r h
  obtain ⟨p,ys,rfl,hq,q⟩:=h
  obtain ⟨u,rfl,rx⟩:=vals1 r
  cases rx
  have hn:=line63
  rcases hq with hq | hq
  · obtain ⟨its,r',pl,hz⟩:=I.list hq
    have hlen:=r'.length
    exact Calls.call_len_list pl.isList (by simp only [List.size_toArray] <;> omega) ⟨.int ys.length,H,I.tok _,⟨s.toks+1,by rw [List.size_toArray,hlen]⟩,q⟩
  · obtain ⟨its,r',pl,hz⟩:=I.tuple hq
    have hlen:=r'.length
    exact len_tuple pl (by simp only [List.size_toArray] <;> omega) ⟨.int ys.length,H,I.tok _,⟨s.toks+1,by rw [List.size_toArray,hlen]⟩,q⟩
theorem call_list_of:CallR X (.type "list") (fun xs H Q=>∃ p ys,xs=[.ref p]∧(SqL X.K H p ys∨SqT X.K H p ys)∧∀ l,H l=none→Q (.ref l) (upd H l (.lst ys))):=by
  intro pins s σ H xs us Q I r h
  obtain ⟨p,ys,rfl,hq,q⟩:=h
  obtain ⟨u,rfl,rx⟩:=vals1 r
  cases rx
  have fin:∀ (its:List Value),Vals ys its→ys.length≤sizeLine→∀ (h':Heap) (c':Nat),(∀ b o',s.heap.get? b=some o'→h'.get? b=some o') →
      h'.get? s.heap.objs.size=some { cls:=.type "list",dict:=none,data:=.seq its.toArray c',slots:=#[] }→EP X pins σ Q (.ref s.heap.objs.size) { s with heap:=h' }:=fun its r' hz h' c' kp e =>
    ⟨.ref s.heap.objs.size,_,I.laid (t':=s.toks) kp (Nat.le_refl _) (show ObjOk X.prog X.w _ h' _ (.lst ys) from ⟨hz,its,c',r',e⟩),rfl,q _ (I.hok.fresh (Nat.le_refl _))⟩
  rcases hq with hq | hq
  · obtain ⟨its,r',pl,hz⟩:=I.list hq
    have hlen:=r'.length
    obtain ⟨o,ho,hc,n,hd⟩:=pl.isList
    exact call_list_seq p (.inl rfl) ho hc hd (fun h' c' kp e=>fin its r' hz h' c' kp e) (by simp only [List.size_toArray] <;> omega)
  · obtain ⟨its,r',pl,hz⟩:=I.tuple hq
    have hlen:=r'.length
    obtain ⟨o,ho,hc,n,hd⟩:=pl
    exact call_list_seq p (.inr rfl) ho hc hd (fun h' c' kp e=>fin its r' hz h' c' kp e) (by simp only [List.size_toArray] <;> omega)
theorem call_tuple_of:CallR X (.type "tuple") (fun xs H Q=>∃ p ys,xs=[.ref p]∧((SqL X.K H p ys∧∀ l,H l=none→Q (.ref l) (upd H l (.tup ys)))∨(SqT X.K H p ys∧Q (.ref p) H))):=by
  intro pins s σ H xs us Q I r h
  obtain ⟨p,ys,rfl,h⟩:=h
  obtain ⟨u,rfl,rx⟩:=vals1 r
  cases rx
  rcases h with ⟨hq,q⟩ | ⟨hq,q⟩
  · obtain ⟨its,r',pl,hz⟩:=I.list hq
    have hlen:=r'.length
    refine call_tuple_list pl.isList (fun h' kp=>?_) (by simp only [List.size_toArray] <;> omega)
    have I1:Inv X pins σ H { s with heap:=h' }:=I.kept (t':=s.toks) kp
    have I2:Inv X pins σ (upd H h'.objs.size (.tup ys)) { s with heap:=h'.push { cls:=.type "tuple",data:=.seq its.toArray } } :=
      I1.laid (t':=s.toks) (fun b o e=>Heap.get?_push_of_some _ e) (Nat.le_refl _) (show ObjOk X.prog X.w _ _ _ (.tup ys) from ⟨hz,its,r',IsTup.new _ _⟩)
    exact ⟨.ref h'.objs.size,_,I2,rfl,q _ (I1.hok.fresh (Nat.le_refl _))⟩
  · obtain ⟨its,r',pl,hz⟩:=I.tuple hq
    exact call_tuple_same pl ⟨.ref p,H,I,rfl,q⟩
def tyV (K:PySem.W.Frag) (T:String) (x:V) (H:Hp):Prop:=match x with
  | .str _=>T = "str"
  | .int _=>T = "int"
  | .ref p=>(T = "list"∧∃ xs,SqL K H p xs)∨(T = "tuple"∧∃ o,K.lookup p=some o∧o.cls=.type "tuple"∧o.dict=none) ∨
      (T = "dict"∧((∃ kvs,H p=some (.dK kvs))∨∃ kvs,H p=some (.dT kvs)))∨(T = "set"∧∃ S n,H p=some (.set S n))
  | _=>False
theorem tyV_is {pins:List (Addr × Obj)} {σ:St} {H:Hp} {s:Shared} {T:String} {x:V} {v:Value} (I:Inv X pins σ H s) (r:RelV x v) (ty:tyV X.K T x H) :
    s.TypeIs v T∧∀ a,v=.ref a→∃ ob,s.heap.get? a=some ob∧ob.dict=none:=by
  cases x with
  | str z =>
    obtain ⟨t,rfl⟩:=r
    cases (show T = "str" from ty)
    exact ⟨typeIs_str s z t,fun _ e=>nomatch e⟩
  | int i =>
    obtain ⟨t,rfl⟩:=r
    cases (show T = "int" from ty)
    exact ⟨typeIs_int s i t,fun _ e=>nomatch e⟩
  | ref p =>
    cases r
    rcases ty with ⟨rfl,xs,hq⟩ | ⟨rfl,o,hk,hc,hd⟩ | ⟨rfl,hk⟩ | ⟨rfl,S,n,hk⟩
    · obtain ⟨its,_,pl,_⟩:=I.list hq
      refine ⟨pl.isList.typeIs,fun a e=>?_⟩
      cases e
      obtain ⟨o,n,e,c,hd,_⟩:=pl
      exact ⟨o,e,hd⟩
    · refine ⟨⟨o,I.kIn p o hk,hc⟩,fun a e=>?_⟩
      cases e
      exact ⟨o,I.kIn _ o hk,hd⟩
    · have z:∃ o,s.heap.get? p=some o∧o.ExactDict:=by
        rcases hk with ⟨kvs,hk⟩ | ⟨kvs,hk⟩
        · obtain ⟨_,_,_,_,o,_,_,e,ex,_⟩:=I.hok p _ hk
          exact ⟨o,e,ex⟩
        · obtain ⟨_,_,_,_,o,_,_,e,ex,_⟩:=I.hok p _ hk
          exact ⟨o,e,ex⟩
      obtain ⟨o,e,ex⟩:=z
      refine ⟨⟨o,e,ex.1⟩,fun a e2=>?_⟩
      cases e2
      exact ⟨o,e,ex.2.1⟩
    · obtain ⟨o,_,_,_,e,ex,_⟩:=I.hok p _ hk
      refine ⟨⟨o,e,ex.1⟩,fun a e2=>?_⟩
      cases e2
      exact ⟨o,e,ex.2.1⟩
  | _=>exact False.elim ty
def tBM (K:PySem.W.Frag) (T:String) (r:V→List V→Hp→VK→Prop) (to:TE) (t:TA):TE:=fun σ H Q=>to σ H fun x H1=>tyV K T x H1∧t σ H1 fun xs H2=>r x xs H2 Q
variable {o e:Expr} {es:List Expr} {to:TE} {t:TA} {name:Str} {apos cpos:Pos} {T id:String} {r:V→List V→Hp→VK→Prop}
theorem pe_bm (pa:PlainAttrs T) (slot:Slot T name id) (hty:typeOf (.builtin id)=pure (.type "method_descriptor")) (hm:MtR X id r) (ho:PE X o to) (ha:PA X (e :: es) t)
    (hbase:attributeBase o name X.env (eval o X.env)=eval o X.env:=by rfl)
    (hfew:((backTo cpos (starEach (e :: es) X.env)).all (fun x=>!x.1) && (backToKw cpos (keywordEach [] X.env)).all (fun x=>x.1.isSome)
      && decide ((e :: es).length+([]:List Keyword).length+(if ([]:List Keyword).isEmpty then 0 else 1) < 30))=true:=by rfl)
    (hline:(apos.endLine == cpos.line)=true:=by rfl) (hs:starEach (e :: es) X.env=(false,eval e X.env) :: starEach es X.env:=by rfl) (hplain:(backTo cpos (starEach es X.env)).any (·.1)=false:=by rfl) :
    PE X (.Call (.Attribute o name apos) (e :: es) [] cpos) (tBM X.K T r to t):=by
  intro pins s σ H Q I h
  refine wpAny_Call_method_late hbase hfew hline rfl (thn (ho pins s σ H _ I h) fun v s1 ⟨x,H1,I1,r1,ty,q1⟩=>?_)
  obtain ⟨h1,h2⟩:=tyV_is I1 r1 ty
  refine ⟨T,id,pa,slot,hty,h1,h2,?_⟩
  have hA:=ha cpos pins s1 σ H1 _ I1 q1
  rw [hs] at hA ⊢
  refine Calls.callWith_builtin (by show (false || (backTo cpos (starEach es X.env)).any (·.1))=false; rw [hplain] <;> rfl) (Calls.evalArgs_plain ?_)
  exact thn hA fun us s2 ⟨vs,H2,I2,r2,q2⟩=>hm pins s2 σ H2 x vs v us Q I2 r1 r2 q2
end
end L2
namespace L2
open PySem PySem.Spec PyProof.Rows
def MtM (X:Cx) (id:String) (r:V→List V→Hp→VK→Prop):Prop :=
  ∀ (pins:List (Addr × Obj)) (s:Shared) (σ:St) (H:Hp) (x:V) (xs:List V) (v:Value) (us:List Value) (Q:VK),Inv X pins σ H s→RelV x v→Vals xs us→r x xs H Q →
    wpAny (model X.prog X.w) X.A (call (.builtin id) (v :: us)) (EP X pins σ Q) X.xe s
theorem Vals.one:∀ {x:V} {us:List Value},Vals [x] us→∃ u,us=[u]∧RelV x u
  | _,_,.cons r .nil=>⟨_,rfl,r⟩
theorem Vals.two:∀ {x y:V} {us:List Value},Vals [x,y] us→∃ u v,us=[u,v]∧RelV x u∧RelV y v
  | _,_,_,.cons r (.cons q .nil)=>⟨_,_,rfl,r,q⟩
theorem Vals.zero:∀ {us:List Value},Vals [] us→us=[]
  | _,.nil=>rfl
theorem Vals.eraseIdx:∀ {xs:List V} {us:List Value} (i:Nat),Vals xs us→Vals (xs.eraseIdx i) (us.eraseIdx i)
  | _,_,_,.nil=>.nil
  | _,_,0,.cons _ t=>t
  | _,_,i+1,.cons r t=>.cons r (Vals.eraseIdx i t)
theorem Vals.reverse {xs:List V} {us:List Value} (h:Vals xs us):Vals xs.reverse us.reverse:=by
  induction h with
  | nil=>exact .nil
  | cons r t ih=>rw [List.reverse_cons,List.reverse_cons]; exact Vals.append ih (.cons r .nil)
theorem len_erase {α:Type}:∀ (l:List α) (i:Nat),(l.eraseIdx i).length≤l.length
  | [],_=>Nat.le_refl _
  | _ :: _,0=>Nat.le_succ _
  | _ :: r,i+1=>Nat.succ_le_succ (len_erase r i)
section
variable {X:Cx} {pins:List (Addr × Obj)} {σ:St} {H:Hp} {s:Shared} {l b:Addr} {xs ys zs:List V}
theorem Inv.lset {its its':List Value} {n:Nat} {f:Array Value→Array Value} {t':Nat} (I:Inv X pins σ H s) (hH:H l=some (.lst xs))
    (e:s.heap.get? l=some { cls:=.type "list",data:=.seq its.toArray n }) (hf:f its.toArray=its'.toArray) (hv:Vals ys its') (hz:ys.length≤sizeLine) :
    Inv X pins σ (upd H l (.lst ys)) { s with heap:=s.heap.update l (Obj.mapSeq f),toks:=t' }:=by
  have q:=PySem.IsL.update e f
  rw [hf] at q
  refine I.write (x:=l) (e:=l) (by rw [hH]; exact trivial) (.inl rfl) (fun b' u hb hu=>(Heap.get?_update_other s.heap (Obj.mapSeq f) (Ne.symm hb)).trans hu) ⟨_,q⟩ ?_
  exact ⟨hz,its',_,hv,q⟩
theorem Inv.lnew {its:List Value} {t':Nat} (I:Inv X pins σ H s) (hv:Vals ys its) (hz:ys.length≤sizeLine) :
    Inv X pins σ (upd H s.heap.objs.size (.lst ys)) { s with heap:=s.heap.push { cls:=.type "list",data:=.seq its.toArray },toks:=t' } :=
  I.laid (fun _ _ q=>Heap.get?_push_of_some _ q) (Nat.le_refl _) ⟨hz,its,0,hv,Heap.get?_push_size _ rfl⟩
theorem Inv.fresh (I:Inv X pins σ H s):H s.heap.objs.size=none:=I.hok.fresh (Nat.le_refl _)
theorem Inv.lstM (I:Inv X pins σ H s) (hH:H l=some (.lst xs)):xs.length≤sizeLine∧∃ (its:List Value) (n:Nat),Vals xs its∧xs.length=its.length∧s.heap.get? l=some { cls:=.type "list",data:=.seq its.toArray n }:=by
  obtain ⟨z,its,n,r,e⟩:=I.hok l _ hH
  exact ⟨z,its,n,r,r.length,e⟩
end
section
variable {X:Cx}
def rAppend:V→List V→Hp→VK→Prop:=fun x vs H Q=>∃ l xs y,x=.ref l∧vs=[y]∧H l=some (.lst xs)∧xs.length < sizeLine∧Q .non (upd H l (.lst (xs++[y])))
theorem mt_append:MtM X "list.append" rAppend:=by
  intro pins s σ H x vs v us Q I rx rv h
  obtain ⟨l,xs,y,rfl,rfl,hH,hz,q⟩:=h
  cases rx
  obtain ⟨u,rfl,ru⟩:=rv.one
  obtain ⟨z,its,n,r,hl,e⟩:=I.lstM hH
  refine call_meets F.slot_list_append ⟨_,e,rfl⟩ F.entry_list_append (F.args_list_append_2 _ _) (PySem.list_append l its.toArray n u (by rw [List.size_toArray]; omega)) ⟨e,?_⟩
  refine ⟨.non,_,I.lset (its':=its++[u]) hH e (by simp) (r.append (.cons ru .nil)) ?_,rfl,q⟩
  rw [List.length_append,List.length_singleton]
  omega
def rPopAt:V→List V→Hp→VK→Prop:=fun x vs H Q=>∃ l xs i k y,x=.ref l∧vs=[.int i]∧H l=some (.lst xs)∧-(2 ^ 63)≤i∧i < 2 ^ 63∧seqIndex? i xs.length=some k∧xs[k]?=some y∧Q y (upd H l (.lst (xs.eraseIdx k)))
theorem mt_popAt:MtM X "list.pop" rPopAt:=by
  intro pins s σ H x vs v us Q I rx rv h
  obtain ⟨l,xs,i,k,y,rfl,rfl,hH,h1,h2,hk,hy,q⟩:=h
  cases rx
  obtain ⟨u,rfl,ru⟩:=rv.one
  obtain ⟨t,rfl⟩:=ru
  obtain ⟨z,its,n,r,hl,e⟩:=I.lstM hH
  obtain ⟨w,hw,rw'⟩:=r.get hy
  refine call_meets F.slot_list_pop ⟨_,e,rfl⟩ F.entry_list_pop (F.args_list_pop_2 _ _)
    (MeetsSeq.list_pop_at l its.toArray n i t k w (fitsIndex_both h1 h2) (by rw [List.size_toArray,← hl]; exact hk) (by rw [← Array.getElem?_toList]; exact hw) (by rw [List.size_toArray]; omega)) ⟨e,?_⟩
  refine ⟨y,_,I.lset (its':=its.eraseIdx k) hH e ?_ (r.eraseIdx k) ?_,rw',q⟩
  · show its.toArray.eraseIdxIfInBounds k=(its.eraseIdx k).toArray
    rw [List.eraseIdxIfInBounds_toArray]
  · have:=len_erase xs k
    omega
def rCat:R2:=fun x y H Q=>∃ l b xs zs,x=.ref l∧y=.ref b∧H l=some (.lst xs)∧H b=some (.lst zs)∧xs.length+zs.length≤sizeLine∧∀ p,H p=none→Q (.ref p) (upd H p (.lst (xs++zs)))
theorem op_cat:OpR X (binaryOp .Add) rCat:=by
  intro pins s σ H x y v u Q I rx ry h
  obtain ⟨l,b,xs,zs,rfl,rfl,hH,hB,hz,q⟩:=h
  cases rx
  cases ry
  obtain ⟨z,its,n,r,hl,e⟩:=I.lstM hH
  obtain ⟨z2,its2,n2,r2,hl2,e2⟩:=I.lstM hB
  refine PySem.P.add_list e e2 ?_ (by rw [List.size_toArray,List.size_toArray]; omega)
  have ea:its.toArray++its2.toArray=(its++its2).toArray:=by simp
  rw [ea]
  exact ⟨.ref _,_,I.lnew (t':=s.toks) (r.append r2) (by rw [List.length_append]; omega),rfl,q _ I.fresh⟩
end
section
variable {prog:Program} {w:World} {A:Around} {E:Value→Shared→Prop} {s:Shared}
end
section
variable {X:Cx}
end
end L2
namespace Att
open PySem PySem.W PySem.Calls PyProof.Rows
theorem ints_of_wellAll {P:Params} {h:Heap}:∀ (ns:List Int) (vs:List Value),WellAll P h vs (ns.map WData.int)→IntsAre vs ns:=by
  intro ns
  induction ns with
  | nil =>
    intro vs w
    rw [List.map_nil] at w
    cases w
    exact .nil
  | cons n ns ih =>
    intro vs w
    rw [List.map_cons] at w
    cases w with
    | cons a b =>
      cases a
      exact .cons _ _ (ih _ b)
theorem script_of {l:OpenLaw} {n:Nat} (hn:l.most=some n) {P:Params} {h:Heap} {args:List WData} {vals:List Value}
    (hpre:l.row.toRowW.claim.pre args=true) (hwl:WellAll P h vals args) :
    ∃ a vs ns,vals=[Value.ref a]∧args=[WData.list (ns.map WData.int)]∧h.get? a=some { cls:=.type "list",data:=.seq vs.toArray }∧IntsAre vs ns∧ns.length≤n:=by
  have hsh:WShape.hasAll [] args [.list .int]=true:=(pre_splitW hpre).1
  have hc:l.pre.holds [] { args:=args }=true:=(pre_splitW hpre).2
  obtain ⟨d,r,rfl,h1,h2⟩:=hasAllW_cons hsh
  obtain rfl:=hasAllW_nil h2
  obtain ⟨xs,rfl,h3⟩:=hasW_list h1
  obtain ⟨ns,rfl⟩:=items_int h3
  have hlen:ns.length≤n:=by
    unfold OpenLaw.pre at hc
    have h4:(WTm.not (.lt (.lit (.int (n:Int))) (.len (.arg 0)))).holds [] { args:=[.list (ns.map .int)] }=true:=by
      have h4:=(holds_andW hc).1
      rw [hn] at h4
      exact h4
    have h5:=condW_of h4 (w_not (w_lt w_lit (w_len_list (w_arg rfl))))
    rw [List.length_map] at h5
    refine Nat.le_of_not_lt fun q=>?_
    have q':(n:Int) < ((ns.length:Nat):Int):=by omega
    first
      | (rw [decide_eq_true q'] at h5; exact absurd h5 (by decide))
      | (simp at h5; omega)
  cases hwl with
  | cons w1 w2 =>
    cases w2
    cases w1 with
    | list ho hall=>exact ⟨_,_,ns,rfl,rfl,ho,ints_of_wellAll ns _ hall,hlen⟩
theorem post_true (l:OpenLaw) (args:List WData):l.row.toRowW.claim.post args (.bool true) args=true :=
  postW_of (r:=l.row.toRowW) (X:=(true == true))
    (show WShape.has [] (.bool true) .bool=true by first | rfl | decide | simp [WShape.has,WShape.arms,WShape.armsAll])
    (show (WTm.eq .res (.lit (.bool true))).value [] { args:=args,res:=some (.bool true),after:=args }=some (.bool (true == true)) from w_eq_bool (w_res rfl) w_lit) rfl
theorem attach_call {l:OpenLaw} {n:Nat} {q:Program} {loose:List Str} {XP:(Str→Option Value)→Heap→Prop} {YP:World→Heap→Prop} {d:DefRec}
    (hn:l.most=some n) (hdf:d.params.defaults=[])
    (call:∀ (w:World) (s₀ s₁:Shared) (mg mb:Str→Option Value) (fa:Addr) (o:Obj) (pm cd doc:Value) (a:Addr) (vs:List Value) (ns:List Int),
      Ground q loose [] XP w s₀ mg mb s₁.heap→YP w s₁.heap →
      s₁.heap.get? fa=some o→o.data=.func (docDef d.name d.params d.body d.scope pm cd doc)→s₁.heap.CodeRec cd d.name→mg d.name=some (.ref fa) →
      s₁.heap.get? a=some { cls:=.type "list",data:=.seq vs.toArray }→IntsAre vs ns→ns.length≤n→s₁.gens = #[] →
      codeAny (model l.prog w) callerA (.call (.ref fa) ⟨[.ref a],[]⟩) (fun r s'=>r=.ok (.ret (.bool true))∧OldK s₁.heap s'.heap∧s'.os=s₁.os∧AllBare s'.gens) s₁) :
    WalkO q loose XP YP l.row.toRowW d [] (fun f vs=>PySem.call f vs):=by
  intro w s₀ s₁ mg mb G Y fa o pm cd doc dV kV ho hd hcd hD hmg hg args vals as hpre hlay hrd hwl hlo
  obtain rfl:dV=.none:=Dflts.none hD hdf
  obtain rfl:kV=.none:=Dflts.noKw hD
  obtain ⟨a,vs,ns,rfl,rfl,hobj,hints,hlen⟩:=script_of hn hpre hwl
  refine enter_call (codeAny_mono (call w s₀ s₁ mg mb fa o pm cd doc a vs ns G Y ho (fd_plain hd) hcd hmg hobj hints hlen hg) fun r s' hq=>?_)
  obtain ⟨rfl,h2,h3,h4⟩:=hq
  exact ⟨.inl ⟨.bool true,.bool true,[],rfl,fun _=>rfl,.bool true,post_true l _,fun _=>⟨List.Pairwise.nil,fun _ hm=>(nomatch hm)⟩⟩,h2,h3,h4⟩
section
variable {prog:Program} {w:World} {A:Around} {E:Value→Shared→Prop} {s:Shared} {K:Frag}
def ledger (h:Heap) (L d:Addr):List (Addr × Obj):=(List.range h.objs.size).filterMap fun a=>if a=L∨a=d then none else (h.get? a).map fun o=>(a,o)
end
end Att
namespace L2
open PySem PySem.Spec PyProof.Rows
theorem vals_ints:∀ {vs:List Value} {ns:List Int},IntsAre vs ns→Vals (ns.map V.int) vs
  | _,_,.nil=>.nil
  | _,_,.cons n t h=>.cons ⟨t,rfl⟩ (vals_ints h)
def Only (H:Hp):Prop:=∀ b,H b=none∨∃ o xs,H b=some (.frz o (.lst xs))
theorem law_call {P:Program} {w:World} {K:PySem.W.Frag} {mg mb:Str→Option Value} {CX:CXT} {k:Nat} {fa a:Addr} {fd:FuncData} {x:Str} {sp:Sp} {s₁:Shared} {vs:List Value} {ns:List Int}
    (KX:K.In s₁.heap) (hns:s₁.heap.Ns mainGlobals mg) (hb:s₁.heap.Ns builtinsNs mb) (hbb:∀ x:Str,x ≠ "__name__"→mb x=bootBuiltins x) (hlim:s₁.heap.NoLimit) (hg:s₁.gens = #[])
    (ha:s₁.heap.get? a=some { cls:=.type "list",data:=.seq vs.toArray }) (hi:IntsAre vs ns) (hl:ns.length≤sizeLine) (hr:Room k callerA)
    (F:∀ base:Heap,K.In base→base.Ns mainGlobals mg→FnOk P w K mg base CX k fa fd [x] sp) (hbind:∀ (s:Shared) (u:Value),BindsTo s fd ⟨[u],[]⟩ [(x,u)])
    (hsp:∀ H:Hp,Only H→SqL K H a (ns.map V.int)→sp [.ref a] H (fun v _=>v=.bl true) fun _ _ _=>False)
    (hCX:∀ H e s',CX [] H s₁ (fun _ _ _=>False) e s'→False) :
    codeAny (model P w) callerA (.call (.ref fa) ⟨[.ref a],[]⟩) (fun r s'=>r=.ok (.ret (.bool true))∧OldK s₁.heap s'.heap∧s'.os=s₁.os∧AllBare s'.gens) s₁:=by
  have rv:=vals_ints hi
  have lenV:=hi.length
  have core:∀ H:Hp,Only H→SqL K H a (ns.map V.int)→HOk P w H s₁.heap→(∀ b,H b≠none→b=a)→(H a≠none→K.lookup a=none) →
      codeAny (model P w) callerA (.call (.ref fa) ⟨[.ref a],[]⟩) (fun r s'=>r=.ok (.ret (.bool true))∧OldK s₁.heap s'.heap∧s'.os=s₁.os∧AllBare s'.gens) s₁:=by
    intro H hO hS hok hA hK
    have base_of:∀ {b:Addr} {o:Obj},s₁.heap.get? b=some o→H b=none→(hidT s₁.heap H).get? b=some o:=fun e n=>hidT_get e n
    have noA:∀ {b:Addr} {o:Obj} {es:Array DictEntry} {ep:Nat},s₁.heap.get? b=some o→o.data=.dict es ep→H b=none:=fun {b o es ep} e d=>by
      cases q:H b with
      | none=>rfl
      | some u =>
        have e':b=a:=hA b (by rw [q]; simp)
        subst e'
        rw [ha] at e; cases e
        have d':Data.seq vs.toArray _=Data.dict es ep:=d
        cases d'
    have nsK:∀ {b:Addr} {m:Str→Option Value},s₁.heap.Ns b m→(hidT s₁.heap H).Ns b m:=fun {b m} ⟨o,es,ep,e,d,r⟩=>⟨o,es,ep,base_of e (noA e d),d,r⟩
    have hKb:K.In (hidT s₁.heap H):=fun b o e=>base_of (KX b o e) (by
      cases q:H b with
      | none=>rfl
      | some u =>
        have e':b=a:=hA b (by rw [q]; simp)
        subst e'
        rw [hK (by rw [q]; simp)] at e; cases e)
    have hM:Mod K mg (hidT s₁.heap H):=⟨hKb,nsK hns,⟨mb,nsK hb,hbb⟩,let ⟨mc,h1,h2⟩:=hlim; ⟨mc,nsK h1,h2⟩⟩
    have e0:Env0 P w K mg (hidT s₁.heap H) callerA [] s₁ H:=⟨rfl,hM,fun b o e=>of_hidT e,Nat.le_of_eq (hidT_size _ _),trivial,fun b hb=>absurd (show b∈([]:List Addr) from hb) (by simp),hok,.of_eq hg⟩
    refine codeAny_mono ((F _ hKb (nsK hns)).run callerA [] s₁ H ⟨[.ref a],[]⟩ [.ref a] [.ref a] _ _ hr e0 (hbind s₁ (.ref a)) (.cons rfl .nil) (hsp H hO hS)) fun r s' h=>?_
    cases r with
    | error e=>exact (hCX H e s' h).elim
    | ok fl =>
      cases fl with
      | next=>exact False.elim h
      | brk=>exact False.elim h
      | cont=>exact False.elim h
      | ret u =>
        obtain ⟨v,H',os,bare,un,hok',r',q⟩:=h
        have q':v=.bl true:=q
        subst q'
        obtain rfl:u=Value.bool true:=r'
        refine ⟨rfl,OldK.of_keep fun b o e=>?_,os,bare⟩
        cases q:H b with
        | none=>exact un.keep b o e q (by intro z; exact absurd (show b∈([]:List Addr) from z) (by simp)) (by simp)
        | some u =>
          rcases hO b with z | ⟨ob,xs,z⟩
          · rw [q] at z; cases z
          · have z2:=un.frzs b ob _ z
            obtain ⟨e1,_⟩:=hok b _ z
            obtain ⟨e2,_⟩:=hok' b _ z2
            rw [e] at e1; cases e1
            exact e2
  cases hk:K.lookup a with
  | some o =>
    have e:=KX a o hk
    rw [ha] at e
    cases e
    refine core (fun _=>none) (fun _=>.inl rfl) (.inr ⟨_,vs.toArray,_,hk,rfl,rfl,rfl,by rw [List.size_toArray,lenV]; exact hl,by simpa using rv⟩) (fun b u z=>by have z':(none:Option HO)=some u:=z; cases z') (fun b z=>absurd rfl z) fun z=>absurd rfl z
  | none =>
    refine core (fun b=>if b=a then some (.frz { cls:=.type "list",data:=.seq vs.toArray } (.lst (ns.map V.int))) else none) (fun b=>?_) (.inl (.inr ⟨{ cls:=.type "list",data:=.seq vs.toArray },if_pos rfl⟩)) (fun b u z=>?_) (fun b z=>?_) fun _=>hk
    · by_cases hb:b=a
      · exact .inr ⟨_,_,if_pos hb⟩
      · exact .inl (if_neg hb)
    · by_cases hb:b=a
      · have z':=(if_pos hb).symm.trans z
        cases z'
        subst hb
        exact ⟨ha,by rw [List.length_map]; exact hl,vs,_,rv,ha⟩
      · have z':=(if_neg hb).symm.trans z
        cases z'
    · by_cases hb:b=a
      · exact hb
      · exact absurd (if_neg hb) z
end L2
namespace L2
open PySem PySem.Spec PyProof.Rows
abbrev KOf {K:PySem.W.Frag} {h:Heap} (_:K.In h):PySem.W.Frag:=K
theorem walk_of {l:PySem.W.OpenLaw} {n k:Nat} {q:Program} {loose:List Str} {XP:(Str→Option Value)→Heap→Prop} {YP:World→Heap→Prop} {d:DefRec} {K:Params→PySem.W.Frag} {CX:World→CXT} {sp:World→Sp} {x:Str}
    (hn:l.most=some n) (hn2:n≤sizeLine) (hdf:d.params.defaults=[]) (hr:Room k callerA)
    (hY:∀ (w:World) (h:Heap),YP w h→(K w.params).In h)
    (F:∀ (w:World) (mg:Str→Option Value) (fa:Addr) (h:Heap),(K w.params).In h→h.Ns mainGlobals mg→mg d.name=some (.ref fa) →
      ∃ fd:FuncData,(∀ (s:Shared) (u:Value),BindsTo s fd ⟨[u],[]⟩ [(x,u)]) ∧
        ∀ base:Heap,(K w.params).In base→base.Ns mainGlobals mg→FnOk l.prog w (K w.params) mg base (CX w) k fa fd [x] (sp w))
    (hsp:∀ (w:World) (H:Hp) (a:Addr) (ns:List Int),ns.length≤n→Only H→SqL (K w.params) H a (ns.map V.int)→sp w [.ref a] H (fun v _=>v=.bl true) fun _ _ _=>False)
    (hCX:∀ (w:World) (H:Hp) (s:Shared) (e:Value) (s':Shared),CX w [] H s (fun _ _ _=>False) e s'→False) :
    PySem.W.WalkO q loose XP YP l.row.toRowW d [] (fun f vs=>PySem.call f vs):=by
  refine Att.attach_call hn hdf fun w s₀ s₁ mg mb fa o pm cd doc a vs ns G Y ho hd hcd hmg hobj hints hlen hg=>?_
  have KX:=hY w _ Y
  obtain ⟨fd,hb,hF⟩:=F w mg fa _ KX G.T.g hmg
  exact law_call KX G.T.g G.T.b G.T.builtins G.T.nolimit hg hobj hints (Nat.le_trans hlen hn2) hr hF hb (fun H hO hS=>hsp w H a ns hlen hO hS) fun H e s'=>hCX w H s₁ e s'
end L2
namespace L2
open PySem PySem.Spec PyProof.Rows
def defArgs (s:Stmt):Arguments:=match s with
  | .FunctionDef _ a _ _ _ _ _ _ _ _=>a
  | _=>{ posonlyargs:=[],args:=[],vararg:=none,kwonlyargs:=[],kw_defaults:=[],kwarg:=none,defaults:=[] }
def defBody (s:Stmt):List Stmt:=match s with
  | .FunctionDef _ _ b _ _ _ _ _ _ _=>b
  | _=>[]
def defScope (s:Stmt):Scope:=match s with
  | .FunctionDef _ _ _ _ _ _ sc _ _ _=>sc
  | _=>{ kind:=.function,names:=[],isGenerator:=false,isCoroutine:=false }
abbrev CX0:CXT:=fun _ _ _ _ _ _=>False
abbrev E0:XK:=fun _ _ _=>False
theorem pass0 {X:Cx}:Passes CX0 X E0:=fun _ _ _ _ _ _ _ h=>h.elim
structure Fun (K:PySem.W.Frag) (x qual:Str) (st:Stmt) (f:Addr) (fd:FuncData):Prop where
  ex:∃ (oc:Value) (od:Option Addr) (kV doc pm:Value) (an:Option Addr) (cdv ct:Value) (osl:Array (Option Value)),
    fd=PySem.W.fnOf x qual (defArgs st) (defBody st) (defScope st) .none kV doc pm an cdv ct∧K.lookup f=some ⟨oc,od,.func fd,osl⟩∧PySem.W.codeIn K cdv qual=true
  kp:PySem.W.keepIn K (.ref f)=true
section
variable {P:Program} {w:World} {K:PySem.W.Frag} {mg:Str→Option Value} {base:Heap}
theorem Fun.ok {x qual:Str} {st:Stmt} {f:Addr} {fd:FuncData} {N ps:List Str} {k:Nat} {sp:Sp} (F:Fun K x qual st f fd) (S:FnScope N ps (defScope st)) (len:∀ vs H Q E,sp vs H Q E→vs.length=ps.length)
    (hbody:∀ (cdv:Value) (A:Around) (outer:List Env) (s:Shared) (H:Hp) (vs:List V) (Q:VK) (E:XK),Room k (A.deeper (envOfC qual (defScope st) s.heap.objs.size f cdv))→sp vs H Q E →
      ∃ t,PSs (cxOf CX0 P w K mg base N qual (defScope st) f cdv A outer s H E).nox (defBody st) t∧t { nx:=fun _ H'=>Q .non H',rt:=Q } (start N vs) H):FnOk P w K mg base CX0 (k+1) f fd ps sp:=by
  obtain ⟨oc,od,kV,doc,pm,an,cdv,ct,osl,rfl,lk,hcd⟩:=F.ex
  refine fn_of lk hcd S len fun A outer s H vs Q E hr hsp=>?_
  obtain ⟨t,h,q⟩:=hbody cdv A outer s H vs Q E hr hsp
  exact ⟨t,h.nox,q⟩
theorem Fun.binds {x qual:Str} {st:Stmt} {f:Addr} {fd:FuncData} {ps:List Str} (F:Fun K x qual st f fd)
    (h:∀ (kV doc pm:Value) (an:Option Addr) (cdv ct:Value) (us:List Value),us.length=ps.length→bindArgs (PySem.W.fnOf x qual (defArgs st) (defBody st) (defScope st) .none kV doc pm an cdv ct) ⟨us,[]⟩=pure (ps.zip us)):Binds K fd ps []:=by
  obtain ⟨oc,od,kV,doc,pm,an,cdv,ct,osl,rfl,lk,hcd⟩:=F.ex
  exact .all (h kV doc pm an cdv ct)
theorem fun_mk {x qual:Str} {st:Stmt} {f:Addr} {oc:Value} {od an:Option Addr} {osl:Array (Option Value)} {kV doc pm cdv ct:Value} (l:K.lookup f=some ⟨oc,od,.func (PySem.W.fnOf x qual (defArgs st) (defBody st) (defScope st) .none kV doc pm an cdv ct),osl⟩)
    (c:PySem.W.codeIn K cdv qual=true) (k:PySem.W.keepIn K (.ref f)=true):Fun K x qual st f (PySem.W.fnOf x qual (defArgs st) (defBody st) (defScope st) .none kV doc pm an cdv ct):=⟨⟨oc,od,kV,doc,pm,an,cdv,ct,osl,rfl,l,c⟩,k⟩
end
theorem hu_of {A:Around} {k:Nat} (hr:Room k A):A.units+1 < cLine:=Nat.lt_of_le_of_lt (Nat.add_le_add_left (by decide:1≤64) _) hr.units
theorem small1000 {n:Nat} (h:n≤1000):n < sizeLine:=Nat.lt_of_le_of_lt h (by decide)
section
variable {X:Cx}
theorem pv (i:Nat) {x:Str} {pos:Pos} (hN:X.N[i]?=some x:=by rfl) (hv:Vis X.env.scope x:=by first | exact Or.inl rfl | exact Or.inr (Or.inl rfl) | exact Or.inr (Or.inr rfl)) (hd:(x == ("__debug__" : Str))=false:=by decide)
    (hcd:(x == ("__classdict__" : Str))=false:=by decide):PE X (.Name x pos) (tVar i):=pe_var hN hv hd hcd
end
theorem iteF {A B:Prop} (h:B):if false=true then A else B:=by
  rw [if_neg Bool.false_ne_true]
  exact h
theorem iteT {A B:Prop} (h:A):if true=true then A else B:=by
  rw [if_pos rfl]
  exact h
theorem ite2 {c A B:Prop} [Decidable c] (h1:c→A) (h2:¬ c→B):if c then A else B:=by
  by_cases h:c
  · rw [if_pos h]
    exact h1 h
  · rw [if_neg h]
    exact h2 h
def Same (H H':Hp):Prop:=∀ b o,H b=some o→H' b=some o
theorem Same.refl (H:Hp):Same H H:=fun _ _ h=>h
theorem Same.trans {H H1 H2:Hp} (a:Same H H1) (b:Same H1 H2):Same H H2:=fun c o h=>b c o (a c o h)
theorem Same.free {H H':Hp} (e:Same H H') {l:Addr} (h:H' l=Option.none):H l=Option.none:=by
  cases q:H l with
  | none=>rfl
  | some o =>
    rw [e l o q] at h
    cases h
theorem Same.seq {K:PySem.W.Frag} {H H':Hp} {a:Addr} {xs:List V} (e:Same H H') (h:SqL K H a xs):SqL K H' a xs:=by
  rcases h with (h | ⟨o,h⟩) | h
  · exact .inl (.inl (e _ _ h))
  · exact .inl (.inr ⟨o,e _ _ h⟩)
  · exact .inr h
end L2
set_option maxHeartbeats 4000000
namespace L2
open PySem PySem.Spec PyProof.Rows
theorem closure_walk {env:Env}:∀ (names:List (Str × NameKind)) (acc:List (Str × Addr)),(∀ y∈names,y.2=.free→∃ c,env.cells.lookup y.1=some c) →
    ∃ cl,(forIn names acc (fun (x:Str × NameKind) (cs:List (Str × Addr))=>(if x.2 == .free then (do let c ← cellOf env x.1; pure (ForInStep.yield ((x.1,c) :: cs))) else pure (ForInStep.yield cs):Sem (ForInStep (List (Str × Addr))))))=pure cl ∧
      (∀ y∈names,y.2=.free→∃ c,cl.lookup y.1=some c)∧(∀ y c,acc.lookup y=some c→∃ d,cl.lookup y=some d)∧(∀ y c,cl.lookup y=some c→env.cells.lookup y=some c∨acc.lookup y=some c)
  | [],acc,_=>⟨acc,rfl,(fun _ h=>nomatch h),(fun y c h=>⟨c,h⟩),(fun y c h=>.inr h)⟩
  | (n,k) :: r,acc,h=>by
    rw [List.forIn_cons]
    by_cases hk:k=.free
    · subst hk
      obtain ⟨c,hc⟩:=h (n,.free) List.mem_cons_self rfl
      obtain ⟨cl,e,h1,h2,h3⟩:=closure_walk r ((n,c) :: acc) fun y hy=>h y (List.mem_cons_of_mem _ hy)
      refine ⟨cl,?_,?_,?_,?_⟩
      · have e0:cellOf env n=pure c:=by unfold cellOf; rw [hc]
        simp only [beq_self_eq_true,if_true,e0,pure_bind]
        exact e
      · intro y hy hf
        rcases List.mem_cons.mp hy with rfl | hy
        · exact h2 n c (by simp)
        · exact h1 y hy hf
      · intro y d hd
        by_cases e1:y=n
        · subst e1; exact h2 y c (by simp)
        · exact h2 y d (by rw [List.lookup_cons,beq_eq_false_iff_ne.mpr e1]; exact hd)
      · intro y d hd
        rcases h3 y d hd with q | q
        · exact .inl q
        · by_cases e1:y=n
          · subst e1
            simp at q
            exact .inl (by rw [← q]; exact hc)
          · rw [List.lookup_cons,beq_eq_false_iff_ne.mpr e1] at q
            exact .inr q
    · have hb:(k == NameKind.free)=false:=by simpa using hk
      obtain ⟨cl,e,h1,h2,h3⟩:=closure_walk r acc fun y hy=>h y (List.mem_cons_of_mem _ hy)
      refine ⟨cl,?_,?_,h2,h3⟩
      · simp only [hb,Bool.false_eq_true,if_false,pure_bind]
        exact e
      · intro y hy hf
        rcases List.mem_cons.mp hy with rfl | hy
        · exact absurd hf hk
        · exact h1 y hy hf
theorem closure_of {scope:Scope} {env:Env} (h:∀ y∈scope.names,y.2=.free→∃ c,env.cells.lookup y.1=some c) :
    ∃ cl,closureFor scope env=pure cl∧(∀ y∈scope.names,y.2=.free→∃ c,cl.lookup y.1=some c)∧∀ y c,cl.lookup y=some c→env.cells.lookup y=some c:=by
  obtain ⟨cl,e,h1,_,h3⟩:=closure_walk scope.names [] h
  refine ⟨cl,?_,h1,fun y c q=>(h3 y c q).elim id fun z=>by simp at z⟩
  rw [← e]
  unfold closureFor
  simp only [bind_pure]
theorem relabel_free {env:Env}:∀ {names:List (Str × NameKind)} {x:Str},names.lookup x=some .free →
    (names.map fun (n,k)=>if (k == NameKind.free && env.scope.kind == .function && env.kindOf n == some .cell) then (n,NameKind.cell) else (n,k)).lookup x=some .cell ∨
    (names.map fun (n,k)=>if (k == NameKind.free && env.scope.kind == .function && env.kindOf n == some .cell) then (n,NameKind.cell) else (n,k)).lookup x=some .free
  | [],_,h=>by simp at h
  | (n,k) :: r,x,h=>by
    have ih:=@relabel_free env r x
    rw [List.map_cons]
    cases hx:x == n with
    | true =>
      simp only [List.lookup_cons,hx] at h
      cases h
      by_cases hc:(NameKind.free == NameKind.free && env.scope.kind == .function && env.kindOf n == some .cell)=true
      · left; simp only [if_pos hc,List.lookup_cons,hx]
      · right; simp only [if_neg hc,List.lookup_cons,hx]
    | false =>
      simp only [List.lookup_cons,hx] at h
      by_cases hc:(k == NameKind.free && env.scope.kind == .function && env.kindOf n == some .cell)=true
      · simp only [if_pos hc,List.lookup_cons,hx]; exact ih h
      · simp only [if_neg hc,List.lookup_cons,hx]; exact ih h
theorem relabel_inv {env:Env}:∀ {names:List (Str × NameKind)} {x:Str} {k':NameKind},
    (names.map fun (n,k)=>if (k == NameKind.free && env.scope.kind == .function && env.kindOf n == some .cell) then (n,NameKind.cell) else (n,k)).lookup x=some k'→(k'=.cell∨k'=.free) →
    ∃ k,(x,k)∈names∧(k=.cell∨k=.free)
  | [],_,_,h,_=>by simp at h
  | (n,k) :: r,x,k',h,hk=>by
    have ih:=@relabel_inv env r x k'
    rw [List.map_cons] at h
    cases hx:x == n with
    | true =>
      have e:x=n:=by simpa using hx
      subst e
      by_cases hc:(k == NameKind.free && env.scope.kind == .function && env.kindOf x == some .cell)=true
      · refine ⟨k,List.mem_cons_self,.inr ?_⟩
        simp only [Bool.and_eq_true,beq_iff_eq] at hc
        exact hc.1.1
      · simp only [if_neg hc,List.lookup_cons,beq_self_eq_true] at h
        cases h
        exact ⟨k,List.mem_cons_self,hk⟩
    | false =>
      have h':(r.map fun (n,k)=>if (k == NameKind.free && env.scope.kind == .function && env.kindOf n == some .cell) then (n,NameKind.cell) else (n,k)).lookup x=some k':=by
        by_cases hc:(k == NameKind.free && env.scope.kind == .function && env.kindOf n == some .cell)=true
        · simpa only [if_pos hc,List.lookup_cons,hx] using h
        · simpa only [if_neg hc,List.lookup_cons,hx] using h
      obtain ⟨q,m,z⟩:=ih h' hk
      exact ⟨q,List.mem_cons_of_mem _ m,z⟩
abbrev blockCx (X:Cx) (scope:Scope) (N:List Str) (cl:List (Str × Addr)) (C:Addr) (s:Shared) (H:Hp) (ex:List Addr) (pn:List (Addr × Obj)) (E:Value→Shared→Prop):Cx :=
  { X with N:=N,s₀:=s,H₀:=H,env:=compEnvC scope cl C X.env,outer:=X.stack,stack:=X.stack,ex:=ex,fn:=fun _=>false,pn:=pn,xe:=E }
theorem block_ok {X:Cx} {pins:List (Addr × Obj)} {σ σ':St} {H:Hp} {s:Shared} {scope:Scope} {N:List Str} {cl:List (Str × Addr)} {fp:List Addr} {E:Value→Shared→Prop} {h1:Heap} {t:Nat}
    (I:Inv X pins σ H s) (hkind:scope.kind=.function) (hcell:∀ y∈scope.names,y.2≠.cell) (hfree:∀ y∈scope.names,y.2=.free→X.env.kindOf y.1=some .cell∨X.env.kindOf y.1=some .free)
    (hcl1:∀ y∈scope.names,y.2=.free→∃ c,cl.lookup y.1=some c) (hcl2:∀ y c,cl.lookup y=some c→X.env.cells.lookup y=some c)
    (hf:∀ b∈fp,FpOk X pins H b) (hfo:∀ b∈fp,∃ o,s.heap.get? b=some o)
    (hl:σ'.length=N.length) (hσ:∀ (i:Nat) (x:Str) (v:V),N[i]?=some x→σ'[i]?=some (some v)→scope.names.lookup x=some .free∧∃ j:Nat,X.N[j]?=some x∧σ[j]?=some (some v))
    (hns:h1.Ns s.heap.objs.size (fun _=>none)) (hold:∀ b o,s.heap.get? b=some o→h1.get? b=some o) :
    Inv (blockCx X scope N cl s.heap.objs.size s H fp (X.pn++pins) E) [] σ' H { s with heap:=h1,toks:=t }:=by
  have szc:∀ b o,s.heap.get? b=some o→b≠s.heap.objs.size:=fun b o e=>Nat.ne_of_lt (Heap.lt_size e)
  have okY:(blockCx X scope N cl s.heap.objs.size s H fp (X.pn++pins) E).Ok:=by
    refine ⟨I.ok.mod,hkind,I.ok.glob,I.ok.blt,Nat.le_refl _,fun x y c e1 e2=>I.ok.inj x y c (hcl2 _ _ e1) (hcl2 _ _ e2),fun x hx=>?_,fun x c hfn _=>?_,I.ok.hd,I.ok.frames,.inl rfl,fun b hb=>⟨?_,fun x c e z=>?_⟩,I.bs,Nat.le_trans I.ok.bsz I.sz,fun b o e hb=>?_,fun b hb z=>?_,I.stack,I.stkFree⟩
    · have hx':(relabel scope X.env).names.lookup x=some .cell∨(relabel scope X.env).names.lookup x=some .free:=hx
      have q:∃ k,(x,k)∈scope.names∧(k=.cell∨k=.free):=by
        rcases hx' with z | z
        · exact relabel_inv z (.inl rfl)
        · exact relabel_inv z (.inr rfl)
      obtain ⟨k,hm,hk⟩:=q
      rcases hk with rfl | rfl
      · exact absurd rfl (hcell _ hm)
      · exact hcl1 _ hm rfl
    · exact absurd (show false=true from hfn) (by decide)
    · obtain ⟨o,e⟩:=hfo b hb
      exact szc b o e
    · exact (hf b hb).2.2.2.2.1 x c (hcl2 _ _ e) z
    · rcases (hf b hb).2.2.2.1 with z | z
      · exact I.ok.noex b o e z
      · exact absurd (Nat.lt_of_lt_of_le (Heap.lt_size e) (Nat.le_trans I.ok.bsz z)) (Nat.lt_irrefl _)
    · rcases List.mem_cons.mp (I.stkSub b z) with q | q
      · exact (hf b hb).2.1 q
      · exact (hf b hb).2.2.1 q
  obtain ⟨m,hn,hlook⟩:=id I.loc
  refine ⟨okY,rfl,I.bare,Un.kept hold,⟨_,hns,fun i x v e1 e2 _=>?_⟩,fun x c e=>?_,I.hok.fresh (Nat.le_refl _),fun x c e=>I.freeC x c (hcl2 _ _ e),fun p hp=>?_,I.hok.kept hold,hl⟩
  · obtain ⟨hfr,j,ej,es⟩:=hσ i x v e1 e2
    have hm:(x,NameKind.free)∈scope.names:=PySem.mem_of_lookup hfr
    have hk:=hfree _ hm rfl
    have hv:Vis X.env.scope x:=by
      rcases hk with z | z
      · exact .inr (.inl z)
      · exact .inr (.inr z)
    obtain ⟨u,r,l⟩:=hlook j x v ej es hv
    refine ⟨u,r,.inr ⟨?_,?_⟩⟩
    · exact relabel_free hfr
    · rcases l with ⟨k,_⟩ | ⟨_,c,ec,hc⟩
      · rcases hk with z | z <;> (rw [k] at z; cases z)
      · obtain ⟨d,hd⟩:=hcl1 _ hm rfl
        have e:=hcl2 _ _ hd
        have ec':X.env.cells.lookup x=some d:=e
        rw [ec] at ec'; cases ec'
        obtain ⟨o,ho,hod⟩:=hc
        exact ⟨c,hd,o,hold c o ho,hod⟩
  · obtain ⟨v,o,ho,hod⟩:=I.cell x c (hcl2 _ _ e)
    exact ⟨v,o,hold c o ho,hod⟩
  · have hp':p∈X.pn++pins:=by simpa using hp
    obtain ⟨a1,a2,a3,a4,a5⟩:=I.pin p hp'
    refine ⟨hold _ _ a1,a2,szc _ _ a1,fun z=>?_,a5⟩
    rcases List.mem_cons.mp (I.stkSub _ z) with q | q
    · exact a3 q
    · exact a4 q
def PIfs (X:Cx) (ifs:List Expr) (t:TT):Prop :=
  ∀ (pins:List (Addr × Obj)) (s:Shared) (σ:St) (H:Hp) (Q:Bool→Hp→Prop),Inv X pins σ H s→t σ H Q →
    wpAny (model X.prog X.w) X.A (forIn ifs true fun c r=>if r=true then do let ok ← isTrue c X.env (eval c X.env); pure (ForInStep.yield ok) else pure (ForInStep.yield r)) (TP X pins σ Q) X.xe s
def tYes:TT:=fun _ H Q=>Q true H
theorem pifs_nil {X:Cx}:PIfs X [] tYes:=fun _ _ _ H _ I h=>wpAny_tests_nil ⟨H,I,h⟩
theorem pifs_one {X:Cx} {c:Expr} {t:TT} (h:PT X c t):PIfs X [c] t:=fun pins s σ H Q I hw=>wpAny_tests_one (h pins s σ H Q I hw)
section
variable {prog:Program} {w:World} {A:Around} {R:Result→Shared→Prop} {s:Shared}
theorem codeAny_compLoop_any {elt target iter:Expr} {ifs:List Expr} {scope:Scope} {pos:Pos} {it acc:Value} {env:Env} (I:Nat→Shared→Prop)
    (turn:∀ n s,I n s→wpAny (model prog w) A (pyNext it) (fun r s₁=>match r with
      | none=>R (.ok .next) s₁
      | some v=>wpAny (model prog w) A (letOwnedTupleGo target it v) (fun _ s₁'=>wpAny (model prog w) A (assign target env v) (fun _ s₂ =>
          wpAny (model prog w) A (forIn ifs true fun c r=>if r=true then do let ok ← isTrue c env (eval c env); pure (ForInStep.yield ok) else pure (ForInStep.yield r)) (fun ok s₃ =>
            if ok=true then wpAny (model prog w) A (eval elt env) (fun x s₄ =>
              wpAny (model prog w) A (call (.builtin "list.append") [acc,x]) (fun _ s₅=>∃ m,m < n∧I m s₅) (notedBy (model prog w) A env fun e s'=>R (.error e) s') s₄) (notedBy (model prog w) A env fun e s'=>R (.error e) s') s₃
            else ∃ m,m < n∧I m s₃) (notedBy (model prog w) A env fun e s'=>R (.error e) s') s₂) (notedBy (model prog w) A env fun e s'=>R (.error e) s') s₁') (notedBy (model prog w) A env fun e s'=>R (.error e) s') s₁)
        (notedBy (model prog w) A env fun e s'=>R (.error e) s') s)
    (n:Nat) (h:I n s) :
    codeAny (model prog w) A (.compLoop (.ListComp elt [⟨target,iter,ifs,0⟩] scope pos) 0 it acc env) R s:=by
  refine codeAny_loop rfl I (fun n s hI=>?_) n h
  show wpAny _ A ((compTurn (.ListComp elt [⟨target,iter,ifs,0⟩] scope pos) 0 it acc env).onRaise (fun x=>do noteFrame x env; theTreesLotGoes x)) _ _ s
  refine wpAny_noted ?_
  rw [compTurn_list]
  refine wpAny_bind (wpAny_standAt (wpAny_bind (wpAny_mono (turn n s hI) (fun r s₁ h₁=>?_) fun _ _ h'=>h')))
  cases r with
  | none=>exact wpAny_pure h₁
  | some v =>
    refine wpAny_bind (wpAny_mono h₁ (fun _ s₁' h₁'=>?_) fun _ _ h'=>h')
    refine wpAny_bind (wpAny_mono h₁' (fun _ s₂ h₂=>wpAny_bind (wpAny_mono h₂ (fun ok s₃ h₃=>?_) fun _ _ h'=>h')) fun _ _ h'=>h')
    cases ok with
    | false=>exact wpAny_pure ⟨rfl,h₃⟩
    | true =>
      exact wpAny_bind (wpAny_bind (wpAny_mono h₃ (fun x s₄ h₄=>wpAny_bind (wpAny_mono h₄ (fun _ s₅ h₅=>wpAny_pure (wpAny_pure ⟨rfl,h₅⟩)) fun _ _ h'=>h')) fun _ _ h'=>h'))
end
def tComp (wi:TI) (g:TG) (tc:TT) (te:TE) (lift:St→St):TE:=fun σ H Q=>wi σ H fun J H1=>∀ l,H1 l=none→∃ W:Nat→Nat→St→Hp→Prop,(∃ m,W 0 m (lift σ) (upd H1 l (.lst [])))∧∀ i m σ H,W i m σ H →
  (J.stop i H∧Q (.ref l) H)∨(J.go i H∧∃ N:St→Hp→Prop,(∀ σ' H',N σ' H'→∃ m',m' < m∧W (i+1) m' σ' H') ∧
    ∀ x H',J.yld i H x H'→g x σ H' fun σ2 H2=>tc σ2 H2 fun b H3=>if b=true then te σ2 H3 fun v H4=>∃ ys,H4 l=some (.lst ys)∧ys.length < sizeLine∧N σ2 (upd H4 l (.lst (ys++[v]))) else N σ2 H3)
theorem pe_comp {X:Cx} {elt tg iter:Expr} {ifs:List Expr} {scope:Scope} {pos:Pos} {wi:TI} {g:TG} {tc:TT} {te:TE} (N:List Str) (lift:St→St) (hc:X.calm=true) (hi:PI X tg iter wi)
    (hkind:scope.kind=.function) (hcell:∀ y∈scope.names,y.2≠.cell) (hfree:∀ y∈scope.names,y.2=.free→X.env.kindOf y.1=some .cell∨X.env.kindOf y.1=some .free)
    (hnames:∀ y∈scope.names,y.2=.local→scope.names.lookup y.1=some .local)
    (hlen:∀ σ:St,σ.length=X.N.length→(lift σ).length=N.length)
    (hσ:∀ (σ:St) (i:Nat) (x:Str) (v:V),σ.length=X.N.length→N[i]?=some x→(lift σ)[i]?=some (some v)→scope.names.lookup x=some .free∧∃ j:Nat,X.N[j]?=some x∧σ[j]?=some (some v))
    (hg:∀ cl C s H ex pn E,PG (blockCx X scope N cl C s H ex pn E) tg g) (ht:∀ cl C s H ex pn E,PIfs (blockCx X scope N cl C s H ex pn E) ifs tc) (he:∀ cl C s H ex pn E,PE (blockCx X scope N cl C s H ex pn E) elt te)
    (hs:∀ x,foldedSetIterable iter X.env x=pure x:=by intro _; rfl) :
    PE X (.ListComp elt [⟨tg,iter,ifs,0⟩] scope pos) (tComp wi g tc te lift):=by
  intro pins s σ H Q I h
  rw [eval_ListComp]
  obtain ⟨cl,hclos,hcl1,hcl2⟩:=closure_of (scope:=scope) (env:=X.env) fun y hy hf=>I.ok.has y.1 (hfree y hy hf)
  refine wpAny_comprehension_free (use:=none) rfl hs hclos hkind hnames (thn (hi pins s σ H _ I h) fun v s1 h1=>thn h1 fun itv s2 h2=>?_)
  obtain ⟨it,fp,tn,J,H2,e,I2,T,st2,f2,q⟩:=h2
  subst e
  refine wpAny_newObj_type (wpAny_newFunctionEnv hcell (by intro y hy; simp at hy) (fun h₁ hns₁ hsb₁=>?_) hkind)
  have I3:Inv X pins σ (upd H2 s2.heap.objs.size (.lst [])) { s2 with heap:=s2.heap.push { cls:=.type "list",data:=.seq ([]:List Value).toArray } }:=I2.lnew (its:=[]) (t':=s2.toks) .nil (Nat.zero_le _)
  have fr:H2 s2.heap.objs.size=none:=I2.fresh
  have hold:∀ b o,(s2.heap.push { cls:=.type "list",data:=.seq ([]:List Value).toArray }).get? b=some o→h₁.get? b=some o:=fun b o e=>hsb₁.extBut b o (Nat.ne_of_lt (Heap.lt_size e)) (Heap.get?_push_of_some _ e)
  have f3:∀ b∈fp,FpOk X pins (upd H2 s2.heap.objs.size (.lst [])) b:=fun b hb=>by
    obtain ⟨o,eo,_⟩:=T.obj 0 _ st2 b hb
    exact ⟨by rw [upd_ne (Nat.ne_of_lt (Heap.lt_size eo))]; exact (f2 b hb).1,(f2 b hb).2⟩
  have fo:∀ b∈fp,∃ o,(s2.heap.push { cls:=.type "list",data:=.seq ([]:List Value).toArray }).get? b=some o:=fun b hb=>by
    obtain ⟨o,eo,_⟩:=T.obj 0 _ st2 b hb
    exact ⟨o,Heap.get?_push_of_some _ eo⟩
  generalize hP:s2.heap.push { cls:=.type "list",data:=.seq ([]:List Value).toArray }=P at *
  obtain ⟨W,⟨m0,w0⟩,turn⟩:=q s2.heap.objs.size fr
  generalize hL:s2.heap.objs.size=L at *
  let R:Result→Shared→Prop:=compPost (model X.prog X.w) X.A X.xe none (EP X pins σ Q) (.ref L) P.objs.size
  let Y:Cx:=blockCx X scope N cl P.objs.size { s2 with heap:=P } (upd H2 L (.lst [])) fp (X.pn++pins) (notedBy (model X.prog X.w) X.A (compEnvC scope cl P.objs.size X.env) fun e s'=>R (.error e) s')
  have IY:Inv Y [] (lift σ) (upd H2 L (.lst [])) { s2 with heap:=h₁,toks:=s2.toks+([]:List (Str × Value)).length } :=
    block_ok (s:={ s2 with heap:=P }) I3 hkind hcell hfree hcl1 hcl2 f3 fo (hlen σ I.len) (fun i x v=>hσ σ i x v I.len) hns₁ hold
  have stY:tn 0 h₁:=T.keep _ _ _ st2 fun b hb o e=>hold b o (by rw [← hP]; exact Heap.get?_push_of_some _ e)
  have fC:∀ b∈fp,b≠P.objs.size∧(b∈fp):=fun b hb=>by
    obtain ⟨o,eo⟩:=fo b hb
    exact ⟨Nat.ne_of_lt (Heap.lt_size eo),hb⟩
  have fpY:∀ {H':Hp},(∀ b∈fp,H' b=none)→∀ b∈fp,FpOk Y [] H' b:=fun {H'} hn b hb=>by
    refine ⟨hn b hb,(fC b hb).1,fun z=>?_,.inl hb,fun x c ex=>(f3 b hb).2.2.2.2.1 x c (hcl2 _ _ ex),fun p hp=>?_⟩
    · rcases List.mem_cons.mp (I3.stkSub b z) with y | y
      · exact (f3 b hb).2.1 y
      · exact (f3 b hb).2.2.1 y
    · have hp':p∈(X.pn++pins)++[]:=hp
      rw [List.append_nil] at hp'
      exact (f3 b hb).2.2.2.2.2 p hp'
  have loop:∀ s4:Shared,s4={ s2 with heap:=h₁,toks:=s2.toks+([]:List (Str × Value)).length } →
      codeAny (model X.prog X.w) X.A (.compLoop (.ListComp elt [⟨tg,iter,ifs,0⟩] scope pos) 0 (.ref it) (.ref L) (compEnvC scope cl P.objs.size X.env)) R s4:=by
    rintro s4 rfl
    refine codeAny_compLoop_any (fun n s'=>∃ i σ' H',Inv Y [] σ' H' s'∧tn i s'.heap∧(∀ b∈fp,H' b=none)∧W i n σ' H') ?_ m0 ⟨0,_,_,IY,stY,fun b hb=>(f3 b hb).1,w0⟩
    rintro n s5 ⟨i,σ5,H5,I5,st5,fr5,w5⟩
    rcases turn i n σ5 H5 w5 with ⟨stop,qn⟩ | ⟨go,Nx,hNx,step⟩
    · refine thn (T.done Y rfl rfl rfl hc i [] s5 σ5 H5 Y.xe I5 (fpY fr5) st5 stop) fun r s6 ⟨hr,I6⟩=>?_
      subst hr
      show R (.ok .next) s6
      obtain ⟨m6,hn6,_⟩:=id I6.loc
      have IX:Inv X pins σ H5 s6:=I3.call' (s':=s6) (ch:=fp) I6.os I6.base I6.hok I6.bare fun b hb=>⟨(f3 b hb).2.2.2.1,(f3 b hb).2.1,(f3 b hb).2.2.2.2.1,(f3 b hb).2.2.2.2.2⟩
      refine ⟨m6,hn6,fun h' sb=>⟨.ref L,H5,IX.turned (t':=s6.toks) (it:=P.objs.size) (fun b o hb e=>(sb.2 b hb).trans e) I6.free (Nat.ne_of_gt I3.lt) (.inr I3.sz) (fun x c ec z=>?_) fun p hp z=>?_,rfl,qn⟩⟩
      · obtain ⟨v0,qv⟩:=I3.cell x c ec
        exact absurd qv.lt (by rw [z]; exact Nat.lt_irrefl _)
      · have z0:=Heap.lt_size (I3.pin p hp).1
        exact absurd z0 (by rw [z]; exact Nat.lt_irrefl _)
    · refine thn (T.item Y rfl rfl rfl hc i [] s5 σ5 H5 Y.xe I5 (fpY fr5) st5 go) fun r s6 ⟨u,hr,h6⟩=>?_
      subst hr
      refine thn h6 fun _ s7 ⟨x,H7,I7,r7,y7,st7,fr7⟩=>?_
      have I7':=I7.pinned (fpY fr7) (T.obj _ _ st7)
      refine thn (hg _ _ _ _ _ _ _ _ s7 σ5 H7 x u _ I7' r7 (step x H7 y7)) fun _ s8 ⟨σ8,H8,I8,q8⟩=>?_
      refine thn (ht _ _ _ _ _ _ _ _ s8 σ8 H8 _ I8 q8) fun ok s9 ⟨H9,I9,q9⟩=>?_
      have again:∀ {sx:Shared} {Hx:Hp},Inv Y ([]++pinsAt fp s7.heap) σ8 Hx sx→Nx σ8 Hx→∃ m,m < n∧∃ i σ' H',Inv Y [] σ' H' sx∧tn i sx.heap∧(∀ b∈fp,H' b=none)∧W i m σ' H':=fun {sx Hx} Ix nx=>by
        obtain ⟨m',hm,wx⟩:=hNx σ8 Hx nx
        refine ⟨m',hm,i+1,σ8,Hx,Ix.unpinned,T.keep _ _ _ st7 fun b hb o e=>(Ix.pin (b,o) (List.mem_append_right _ (List.mem_append_right _ (mem_pinsAt hb e)))).1,fun b hb=>?_,wx⟩
        obtain ⟨o,e,d⟩:=T.obj _ _ st7 b hb
        exact (Ix.pin (b,o) (List.mem_append_right _ (List.mem_append_right _ (mem_pinsAt hb e)))).2.1
      cases ok with
      | false =>
        rw [if_neg Bool.false_ne_true] at q9 ⊢
        exact again I9 q9
      | true =>
        rw [if_pos rfl] at q9 ⊢
        refine thn (he _ _ _ _ _ _ _ _ s9 σ8 H9 _ I9 q9) fun y s10 ⟨v10,H10,I10,r10,ys,hys,hz,q10⟩=>?_
        refine thn (mt_append (X:=Y) _ s10 σ8 H10 (.ref L) [v10] (.ref L) [y] (fun _ H'=>Nx σ8 H') I10 rfl (.cons r10 .nil) ⟨L,ys,v10,rfl,rfl,hys,hz,q10⟩) fun _ s11 ⟨_,H11,I11,_,q11⟩=>?_
        exact again I11 q11
  exact codeAny_compStart_list (loop _ rfl) (T.self X.A 0 _ _ _ stY (loop _ rfl))
end L2
namespace L2
open PySem PySem.Spec PyProof.Rows
theorem comp_by {J:It} {g:TG} {tc:TT} {te:TE} {R:Hp→Prop} {l:Addr} {σ0:St} {H0:Hp} (n:Nat) (Pv:Nat→St→Hp→Prop) (h0:Pv 0 σ0 H0) (hstop:∀ σ H,Pv n σ H→J.stop n H∧R H)
    (hgo:∀ i σ H,i < n→Pv i σ H→J.go i H∧∀ x H',J.yld i H x H'→g x σ H' fun σ2 H2=>tc σ2 H2 fun b H3=>if b=true then te σ2 H3 fun v H4=>∃ ys,H4 l=some (.lst ys)∧ys.length < sizeLine∧Pv (i+1) σ2 (upd H4 l (.lst (ys++[v]))) else Pv (i+1) σ2 H3) :
    ∃ W:Nat→Nat→St→Hp→Prop,(∃ m,W 0 m σ0 H0)∧∀ i m σ H,W i m σ H →
      (J.stop i H∧R H)∨(J.go i H∧∃ N:St→Hp→Prop,(∀ σ' H',N σ' H'→∃ m',m' < m∧W (i+1) m' σ' H') ∧
        ∀ x H',J.yld i H x H'→g x σ H' fun σ2 H2=>tc σ2 H2 fun b H3=>if b=true then te σ2 H3 fun v H4=>∃ ys,H4 l=some (.lst ys)∧ys.length < sizeLine∧N σ2 (upd H4 l (.lst (ys++[v]))) else N σ2 H3):=by
  refine ⟨fun i m σ H=>m=n - i∧i≤n∧Pv i σ H,⟨n,by simp,Nat.zero_le _,h0⟩,?_⟩
  rintro i m σ H ⟨rfl,hi,p⟩
  by_cases hlt:i < n
  · obtain ⟨go,st⟩:=hgo i σ H hlt p
    exact .inr ⟨go,Pv (i+1),fun σ' H' p'=>⟨n - (i+1),by omega,rfl,hlt,p'⟩,st⟩
  · have e:i=n:=by omega
    subst e
    exact .inl (hstop σ H p)
theorem yesT {σ:St} {H:Hp} {F:Bool→Hp→Prop} (h:F true H):tYes σ H F:=h
theorem gN {i:Nat} {v:V} {σ:St} {H:Hp} {Q:St→Hp→Prop} (h:Q (σ.set i (some v)) H):gName i v σ H Q:=h
theorem call_isinst {X:Cx}:CallR X (.builtin "isinstance") (fun xs H Q=>∃ x n t b,xs=[x,.ty n]∧TyOf X.K H x t∧PySem.W.kitOne X.K t (.type n)=some b∧Q (.bl b) H):=by
  intro pins s σ H xs us Q I r h
  obtain ⟨x,n,t,b,rfl,ty,e,q⟩:=h
  obtain ⟨u,v,rfl,ru,rv⟩:=vals2 r
  cases rv
  exact isinst_ok I ru ty e fun tk=>⟨.bl b,H,I.tok _,rfl,q⟩
theorem strsAre_of {ys:List Str}:∀ {us:List Value},Vals (ys.map V.str) us→StrsAre us ys:=by
  induction ys with
  | nil=>intro us r; rw [List.map_nil] at r; cases r; exact .nil
  | cons y ys ih =>
    intro us r
    rw [List.map_cons] at r
    cases r with
    | cons r1 r2 =>
      obtain ⟨t,e⟩:=r1
      subst e
      exact .cons y t (ih r2)
def CDivB (i j:Int):Prop:=0 < j∧j < 2 ^ 64
theorem op_fdivB {X:Cx}:OpR X (binaryOp .FloorDiv) (rI CDivB fun i j=>.int (i / j)):=opI fun i j _ _ _ _ _ hc q=>by
  have h1:(0:Int) < j:=hc.1
  have h2:j < 2 ^ 64:=hc.2
  refine floordiv_int (by omega) (by rw [Int.fdiv_eq_ediv_of_nonneg i (by omega)]; exact q) (.inl (PyProof.noPylong_of_log2 ?_))
  have h3:j.natAbs≠0:=by omega
  have h4:j.natAbs < 2 ^ 64:=by omega
  have h5:j.natAbs.log2 < 64:=(Nat.log2_lt h3).mpr h4
  omega
end L2
namespace L2
open PySem PySem.Spec PyProof.Rows
def liftBy (js:List (Option Nat)) (σ:St):St:=js.map fun j=>match j with | some j=>σ.getD j none | none=>none
def chkLift (N:List Str) (js:List (Option Nat)) (XN:List Str) (names:List (Str × NameKind)):Bool :=
  decide (N.length=js.length) && (N.zip js).all fun p=>match p.2 with | none=>true | some j=>decide (XN[j]?=some p.1) && decide (names.lookup p.1=some .free)
theorem chk_len {N:List Str} {js:List (Option Nat)} {XN:List Str} {names:List (Str × NameKind)} (h:chkLift N js XN names=true) (σ:St):(liftBy js σ).length=N.length:=by
  unfold chkLift at h
  rw [Bool.and_eq_true] at h
  unfold liftBy
  rw [List.length_map]
  exact (of_decide_eq_true h.1).symm
theorem chk_at {N:List Str} {js:List (Option Nat)} {XN:List Str} {names:List (Str × NameKind)} (h:chkLift N js XN names=true) (σ:St) (i:Nat) (x:Str) (v:V) (h1:N[i]?=some x) (h2:(liftBy js σ)[i]?=some (some v)) :
    names.lookup x=some .free∧∃ j:Nat,XN[j]?=some x∧σ[j]?=some (some v):=by
  unfold chkLift at h
  rw [Bool.and_eq_true,List.all_eq_true] at h
  unfold liftBy at h2
  rw [List.getElem?_map] at h2
  cases e:js[i]? with
  | none=>rw [e] at h2; cases h2
  | some j =>
    rw [e] at h2
    cases j with
    | none=>cases h2
    | some j =>
      have h3:σ.getD j none=some v:=Option.some.inj h2
      have hm:(x,some j)∈N.zip js:=by
        refine List.mem_of_getElem? (i:=i) ?_
        rw [List.getElem?_zip_eq_some]
        exact ⟨h1,e⟩
      have q:=h.2 _ hm
      simp only [Bool.and_eq_true,decide_eq_true_eq] at q
      refine ⟨q.2,j,q.1,?_⟩
      rw [List.getD_eq_getElem?_getD] at h3
      cases e2:σ[j]? with
      | none=>rw [e2] at h3; cases h3
      | some o=>rw [e2] at h3; exact congrArg some h3
theorem pe_compL {X:Cx} {elt tg iter:Expr} {ifs:List Expr} {scope:Scope} {pos:Pos} {wi:TI} {g:TG} {tc:TT} {te:TE} (XN:List Str) (sc:Scope) (N:List Str) (js:List (Option Nat)) (hXN:X.N=XN) (hsc:X.env.scope=sc) (hc:X.calm=true) (hi:PI X tg iter wi)
    (hkind:scope.kind=.function) (hchk:chkLift N js XN scope.names=true) (hcell:∀ y∈scope.names,y.2≠.cell) (hfree:∀ y∈scope.names,y.2=.free→sc.names.lookup y.1=some .cell∨sc.names.lookup y.1=some .free)
    (hnames:∀ y∈scope.names,y.2=.local→scope.names.lookup y.1=some .local)
    (hg:∀ cl C s H ex pn E,PG (blockCx X scope N cl C s H ex pn E) tg g) (ht:∀ cl C s H ex pn E,PIfs (blockCx X scope N cl C s H ex pn E) ifs tc) (he:∀ cl C s H ex pn E,PE (blockCx X scope N cl C s H ex pn E) elt te)
    (hs:∀ x,foldedSetIterable iter X.env x=pure x:=by intro _; rfl) :
    PE X (.ListComp elt [⟨tg,iter,ifs,0⟩] scope pos) (tComp wi g tc te (liftBy js)):=by
  subst hXN
  subst hsc
  exact pe_comp N (liftBy js) hc hi hkind hcell hfree hnames (fun σ _=>chk_len hchk σ) (fun σ i x v _ h1 h2=>chk_at hchk σ i x v h1 h2) hg ht he hs
theorem kit_tt (K:PySem.W.Frag) {T U:String} {b:Bool} (h:(if (Value.type T == Value.type U)=true then some true else (if PySem.W.kitMeta U=true then (fastBuiltinMro T).map (·.contains (.type U)) else none))=some b) :
    PySem.W.kitOne K (.type T) (.type U)=some b:=h
theorem kit_int_tuple (K:PySem.W.Frag):PySem.W.kitOne K (.type "int") (.type "tuple")=some false:=kit_tt K (by decide +kernel)
theorem kit_int_bool (K:PySem.W.Frag):PySem.W.kitOne K (.type "int") (.type "bool")=some false:=kit_tt K (by decide +kernel)
theorem kit_int_str (K:PySem.W.Frag):PySem.W.kitOne K (.type "int") (.type "str")=some false:=kit_tt K (by decide +kernel)
theorem kit_int_int (K:PySem.W.Frag):PySem.W.kitOne K (.type "int") (.type "int")=some true:=kit_tt K (by decide +kernel)
theorem atI_lt {α:Type} {xs:List α} {r:Int} (h0:0≤r) (h1:r < xs.length):∃ v,atI xs r=some v∧v∈xs:=by
  have hk:r.toNat < xs.length:=by omega
  have ek:r=((r.toNat:Nat):Int):=by omega
  refine ⟨xs[r.toNat],?_,List.getElem_mem hk⟩
  have q:atI xs ((r.toNat:Nat):Int)=some xs[r.toNat]:=atI_nat (List.getElem?_eq_getElem hk)
  rw [← ek] at q
  exact q
theorem same_new {H:Hp} {p:Addr} (h:H p=none) (o:HO):Same H (upd H p o):=fun b u q=>by rw [upd_ne (ne_of_none q h)]; exact q
theorem map_int_at {ns:List Int} {i:Nat} {y:V} (h:(ns.map V.int)[i]?=some y):∃ z,y=V.int z:=by
  rw [List.getElem?_map] at h
  cases e:ns[i]? with
  | none=>rw [e] at h; cases h
  | some z=>rw [e] at h; exact ⟨z,(Option.some.inj h).symm⟩
theorem small {n:Nat} (h:n≤1000):n≤sizeLine:=Nat.le_of_lt (small1000 h)
theorem smn (n:Nat) (h:n≤1000:=by decide):n≤sizeLine:=small h
theorem sizeLine_big:(1000000:Nat)≤sizeLine:=by rw [sizeLine_eq]; decide
structure Pot (H0:Hp) (p:Addr) (H:Hp):Prop where
  at_:∃ a b:Int,H p=some (.lst [.int a,.int b])
  old:∀ c o,H0 c=some o→c≠p→H c=some o
theorem Pot.turn {H0 H:Hp} {p:Addr} {a b:Int} (P:Pot H0 p H):Pot H0 p (upd H p (.lst [.int a,.int b])) :=
  ⟨⟨a,b,upd_same⟩,fun c u q hc=>by rw [upd_ne hc]; exact P.old c u q hc⟩
end L2
namespace L2
open PySem PySem.Spec PyProof.Rows
theorem Pot.apart {H0 H:Hp} {p l:Addr} (P:Pot H0 p H) (h:H l=none):l≠p:=by
  obtain ⟨a,b,e⟩:=P.at_
  exact (ne_of_none e h).symm
def sz:List Nat→Int
  | []=>0
  | c :: r=>(if c=32∨c=10 then 0 else 1)+sz r
end L2
namespace L2
open PySem PySem.Spec PyProof.Rows
theorem bls_at {bs:List Bool} {its:List Value} (r:Vals (bs.map V.bl) its) {i:Nat} {v:Value} (h:its.toArray[i]?=some v):v=.bool (bs.getD i true):=by
  have h':its[i]?=some v:=by simpa using h
  have hl:=r.length
  have hi:i < its.length:=(List.getElem?_eq_some_iff.mp h').1
  have hb:i < bs.length:=by rw [List.length_map] at hl; omega
  obtain ⟨u,hu,ru⟩:=r.get (i:=i) (x:=V.bl bs[i]) (by rw [List.getElem?_map,List.getElem?_eq_getElem hb]; rfl)
  rw [h'] at hu
  cases hu
  have e:bs.getD i true=bs[i]:=by rw [List.getD_eq_getElem?_getD,List.getElem?_eq_getElem hb]; rfl
  rw [e]
  exact ru
theorem all_range (bs:List Bool):(List.range bs.length).all (fun i=>bs.getD i true)=bs.all id:=by
  rw [Bool.eq_iff_iff,List.all_eq_true,List.all_eq_true]
  constructor
  · intro h b hb
    obtain ⟨i,hi,e⟩:=List.getElem_of_mem hb
    have q:=h i (List.mem_range.mpr hi)
    rw [List.getD_eq_getElem?_getD,List.getElem?_eq_getElem hi] at q
    rw [← e]
    exact q
  · intro h i hi
    have hi':=List.mem_range.mp hi
    rw [List.getD_eq_getElem?_getD,List.getElem?_eq_getElem hi']
    exact h _ (List.getElem_mem hi')
theorem call_allB {X:Cx} (hc:X.calm=true):CallR X (.builtin "all") (fun xs H Q=>∃ (l:Addr) (bs:List Bool),xs=[.ref l]∧SqL X.K H l (bs.map V.bl)∧Q (.bl (bs.all id)) H):=by
  intro pins s σ H xs us Q I r h
  obtain ⟨l,bs,rfl,hq,q⟩:=h
  obtain ⟨u,rfl,ru⟩:=vals1 r
  cases ru
  obtain ⟨its,rv,p,hz⟩:=I.list hq
  have hd:X.A.in1.handled=none:=I.ok.hd hc
  have hl:=rv.length
  refine call_all_walk (wpAny_pyIter_list p.isList ?_)
  obtain ⟨o,n,eo,_⟩:=id p
  have hne:l≠s.heap.objs.size:=Nat.ne_of_lt (Heap.lt_size eo)
  refine ⟨s.heap.objs.size,_,_,_,_,_,fun i=>bs.getD i true,rfl,Walks.list hd s.heap.objs.size l hne its.toArray,⟨⟨_,Heap.get?_push_size _ rfl,rfl,rfl⟩,p.isList.push _⟩,fun i v s' Q' E' hv hQ'=>?_,fun h' tk hk=>?_⟩
  · rw [bls_at rv hv]
    exact wpAny_truthy_bool hQ'
  · have e:its.toArray.size=bs.length:=by rw [List.size_toArray,← hl,List.length_map]
    rw [e,all_range]
    have I1:Inv X pins σ H { s with heap:=s.heap.push { cls:=.type "list_iterator",data:=.fields #[.ref l,.int 0 0] } }:=I.kept (t':=s.toks) fun b o q=>Heap.get?_push_of_some _ q
    obtain ⟨f0,f1,f2,f3,f4,f5⟩:=I.fpOk (b:=s.heap.objs.size) (Nat.le_refl _) I.fresh
    exact ⟨.bl _,H,I1.turned (it:=s.heap.objs.size) (fun b o hb e=>hk b o (by simpa using hb) e) f0 f1 f3 f4 f5,rfl,q⟩
theorem kit_str_tuple (K:PySem.W.Frag):PySem.W.kitOne K (.type "str") (.type "tuple")=some false:=kit_tt K (by decide +kernel)
theorem kit_str_str (K:PySem.W.Frag):PySem.W.kitOne K (.type "str") (.type "str")=some true:=kit_tt K (by decide +kernel)
theorem kit_tuple_tuple (K:PySem.W.Frag):PySem.W.kitOne K (.type "tuple") (.type "tuple")=some true:=kit_tt K (by decide +kernel)
def LET:Str:="abcdefghijklmnopqrstuvwxyz"
theorem let_len:LET.length=26:=by decide +kernel
def isNm (x:Str):Bool:=decide (1≤x.length) && decide (x.length≤8) && x.cps.toList.all fun c=>decide (97≤c∧c≤122)
end L2
namespace ZT
open PySem
open Sem (wp)
section
variable {prog:Program} {w:World} {A:Around} {E:Value→Shared→Prop} {s:Shared}
theorem tup_item {it t:Addr} {i:Nat} {its:Array Value} {x:Value} {Q:Value→Shared→Prop} (ti:s.heap.IsTupleIter it t i) (tt:s.heap.IsTuple t its) (tx:its[i]?=some x)
    (k:∀ g,g.IsTupleIter it t (i+1)→Heap.SameBut it s.heap g→Q x { s with heap:=g }):wpAny (model prog w) A (Builtin.SmallTypes.nextOf (.ref it)) Q E s:=by
  obtain ⟨o,eo,ec,ed⟩:=id ti
  obtain ⟨ol,el,_,nl,dl⟩:=tt
  unfold Builtin.SmallTypes.nextOf
  refine wpAny_bind (wpAny_callSpecial?_slot (name:=Str.ofString "__next__") ti.typeIs F.slot_tuple_iterator_next (wpAny_call_entry F.slot_tuple_iterator_next ti.typeIs F.entry_tuple_iterator_next ?_ (F.args_tuple_iterator_next_1 _)))
  show wpAny _ _ (field (.ref it) 0 >>= _) _ _ s
  refine wpAny_bind (wpAny_field eo ed (x:=.ref t) rfl ?_)
  show wpAny _ _ (if (Value.ref t == Value.none)=true then _ else _) _ _ s
  rw [if_neg (by intro z; cases z)]
  show wpAny _ _ (field (.ref it) 1 >>= _) _ _ s
  refine wpAny_bind (wpAny_field eo ed (x:=.int i 0) rfl ?_)
  show wpAny _ _ (seqItems? (.ref t) >>= _) _ _ s
  refine wpAny_bind (wpAny_seqItems el dl ?_)
  simp only [Int.toNat_natCast,tx]
  refine wpAny_bind (wpAny_setField eo ed (by simp) (wpAny_pure ⟨x,rfl,wpAny_pure (k _ ?_ (Heap.SameBut.update ..))⟩))
  refine ⟨_,Heap.get?_update_self _ eo (Obj.isFreed_of_fields (Obj.data_mapFields ed _)),(Obj.cls_mapFields ..).trans ec,?_⟩
  rw [Obj.data_mapFields ed]
  simp [rawInt]
theorem tup_end {it t:Addr} {i:Nat} {its:Array Value} {Q:Value→Shared→Prop} (hd:A.handled=none) (ti:s.heap.IsTupleIter it t i) (tt:s.heap.IsTuple t its) (tx:its[i]?=none)
    (k:∀ g e,Heap.ExtBut it s.heap g→(∃ o,g.get? e=some o∧o.cls=.type "StopIteration")→E (.ref e) { s with heap:=g }):wpAny (model prog w) A (Builtin.SmallTypes.nextOf (.ref it)) Q E s:=by
  obtain ⟨o,eo,ec,ed⟩:=id ti
  obtain ⟨ol,el,_,nl,dl⟩:=tt
  unfold Builtin.SmallTypes.nextOf
  refine wpAny_bind (wpAny_callSpecial?_slot (name:=Str.ofString "__next__") ti.typeIs F.slot_tuple_iterator_next (wpAny_call_entry F.slot_tuple_iterator_next ti.typeIs F.entry_tuple_iterator_next ?_ (F.args_tuple_iterator_next_1 _)))
  show wpAny _ _ (field (.ref it) 0 >>= _) _ _ s
  refine wpAny_bind (wpAny_field eo ed (x:=.ref t) rfl ?_)
  show wpAny _ _ (if (Value.ref t == Value.none)=true then _ else _) _ _ s
  rw [if_neg (by intro z; cases z)]
  show wpAny _ _ (field (.ref it) 1 >>= _) _ _ s
  refine wpAny_bind (wpAny_field eo ed (x:=.int i 0) rfl ?_)
  show wpAny _ _ (seqItems? (.ref t) >>= _) _ _ s
  refine wpAny_bind (wpAny_seqItems el dl ?_)
  simp only [Int.toNat_natCast,tx]
  refine wpAny_bind (wpAny_rule (wpAny_bind (wpAny_setField eo ed (by simp) ?_)))
  show wpAny _ _ (newExc (.type "StopIteration") [] >>= _) _ _ _
  refine wpAny_bind ?_
  simp only [newExc,newTuple]
  refine wpAny_bind (wpAny_newObj_type ?_ (by size_fits))
  refine wpAny_bind (m:=firstArgMember _ _) (wpAny_of_eq (a:=Value.none) (by first | rfl | (simp only [firstArgMember]; rfl)) ?_)
  refine wpAny_newObj_type ?_ (by size_fits)
  simp only [raiseNew]
  refine wpAny_bind (wpAny_handled ?_)
  first | rw [show A.in1.handled=none from hd] | rw [hd]
  refine wpAny_bind (wpAny_pure (wpAny_throw ?_))
  exact k _ _ (((Heap.SameBut.update ..).extBut.push _).push _) ⟨_,Heap.get?_push_size _ rfl,rfl⟩
structure Apart (z TI TO i1 i2 t1 t2:Addr):Prop where
  a1:TI≠z
  a2:TO≠z
  a3:i1≠z
  a4:i2≠z
  b1:TI≠TO
  b2:TI≠i1
  b3:TI≠i2
  b4:TO≠i1
  b5:TO≠i2
  b6:i1≠i2
  c1:t1≠z
  c2:t1≠TO
  c3:t1≠i1
  c4:t1≠i2
  d1:t2≠z
  d2:t2≠TO
  d3:t2≠i1
  d4:t2≠i2
end
end ZT
namespace L2
open PySem PySem.Spec PyProof.Rows
section
variable {X:Cx} {pins:List (Addr × Obj)} {σ:St} {H:Hp} {s:Shared} {h':Heap} {t':Nat} {ch:List Addr}
end
end L2
namespace M01
open PySem
def isW (c:Nat):Bool:=decide (97≤c∧c≤122) || decide (65≤c∧c≤90) || decide (48≤c∧c≤57)
abbrev S:=List (List Nat) × List Nat
def stp (st:S) (c:Nat):S:=if isW c=true then (st.1,st.2++[c]) else (if st.2=[] then st else (st.1++[st.2],[]))
def scn (l:List Nat):S:=l.foldl stp ([],[])
def fn (st:S):List (List Nat):=if st.2=[] then st.1 else st.1++[st.2]
def wds (l:List Nat):List (List Nat):=fn (scn l)
def cmp (st:S) (rest:List Nat):List (List Nat):=if st.2=[] then st.1 else st.1++[st.2++rest.takeWhile isW]
def bl (c:Nat):Nat:=if isW c=true then c else 32
end M01
namespace L2
open PySem PySem.Spec PyProof.Rows
theorem isPart_of {v:Value} {o:Option Int} (h:IsPart v o):∃ q:Option (Int × Tok),v=partValue q∧o=q.map (·.1):=by
  cases h with
  | none=>exact ⟨none,rfl,rfl⟩
  | int i t=>exact ⟨some (i,t),rfl,rfl⟩
def rSlS:V→Option Int→Option Int→Hp→VK→Prop:=fun x lo hi H Q=>∃ y:Str,x=.str y∧y.length≤sizeLine∧Q (.str (Txt.slice y lo hi)) H
theorem sl_str {X:Cx}:SlR X rSlS:=by
  intro pins s σ H x v vl vu lo hi sl Q I rx hs pl pu h
  obtain ⟨y,rfl,hz,q⟩:=h
  obtain ⟨t,rfl⟩:=rx
  obtain ⟨ql,rfl,rfl⟩:=isPart_of pl
  obtain ⟨qu,rfl,rfl⟩:=isPart_of pu
  refine ⟨"str",_,F.slot_str_getitem.lookup,typeIs_str _ _ _,?_⟩
  refine wpAny_getItem_str_slice (l:=ql) (u:=qu) (st:=none) hs rfl ?_
  exact post_val_or_str ⟨Nat.le_trans (Txt.slice_le y _ _) hz,fun t' k=>⟨.str _,H,I.tok _,⟨_,rfl⟩,q⟩⟩
end L2
namespace L2
open PySem PySem.Spec PyProof.Rows
structure Cal (P:Program) (w:World) (K:PySem.W.Frag) (mg:Str→Option Value) (base:Heap) (x:Str) (k:Nat) (ps:List Str) (sp:Sp):Prop where
  ex:∃ (f:Addr) (fd:FuncData),FnOk P w K mg base CX0 k f fd ps sp∧Binds K fd ps []∧PySem.W.keepIn K (.ref f)=true∧mg x=some (.ref f)
structure Has (K:PySem.W.Frag) (mg:Str→Option Value) (x:Str) (st:Stmt) (ps:List Str):Prop where
  ex:∃ (f:Addr) (fd:FuncData),Fun K x x st f fd∧Binds K fd ps []∧mg x=some (.ref f)
section
variable {P:Program} {w:World} {K:PySem.W.Frag} {mg:Str→Option Value} {base:Heap}
theorem Has.cal {x:Str} {st:Stmt} {ps:List Str} {k:Nat} {sp:Sp} (h:Has K mg x st ps) (ok:∀ (f:Addr) (fd:FuncData),Fun K x x st f fd→mg x=some (.ref f)→Binds K fd ps []→FnOk P w K mg base CX0 k f fd ps sp):Cal P w K mg base x k ps sp:=by
  obtain ⟨f,fd,F,b,m⟩:=h.ex
  exact ⟨f,fd,ok f fd F m b,b,F.kp,m⟩
theorem Has.mk' {x:Str} {st:Stmt} {N ps:List Str} {k:Nat} {sp:Sp} (h:Has K mg x st ps) (S:FnScope N ps (defScope st)) (len:∀ vs H Q E,sp vs H Q E→vs.length=ps.length)
    (hbody:∀ (f:Addr) (cdv:Value) (A:Around) (outer:List Env) (s:Shared) (H:Hp) (vs:List V) (Q:VK) (E:XK),Room k (A.deeper (envOfC x (defScope st) s.heap.objs.size f cdv))→sp vs H Q E →
      ∃ t,PSs (cxOf CX0 P w K mg base N x (defScope st) f cdv A outer s H E).nox (defBody st) t∧t { nx:=fun _ H'=>Q .non H',rt:=Q } (start N vs) H):Cal P w K mg base x (k+1) ps sp :=
  h.cal fun f fd F _ _=>F.ok S len (hbody f)
end
theorem pe_cal {X:Cx} {x:Str} {k n:Nat} {ps:List Str} {sp:Sp} {e:Expr} {es:List Expr} {t:TA} {p pos:Pos} (C:Cal X.prog X.w X.K X.mg X.base x k ps sp) (hr:Room n X.A) (hk:k≤n) (hg:Gl X x) (ha:PA X (e :: es) t)
    (hdb:(x == ("__debug__" : Str))=false:=by decide) (he:starEach (e :: es) X.env=(false,eval e X.env) :: starEach es X.env:=by rfl) (hpl:(backTo pos (starEach es X.env)).any (·.1)=false:=by rfl) :
    PE X (.Call (.Name x p) (e :: es) [] pos) (tCall sp [] E0 t):=by
  obtain ⟨f,fd,F,b,kp,m⟩:=C.ex
  exact pe_call F (hr.mono hk) hg m kp b .nil pass0 ha hdb he hpl
inductive D where
  | non | bl (b:Bool) | int (i:Int) | str (x:Str) | tup (ds:List D)
mutual
def Den (H:Hp):V→D→Prop
  | v,.non=>v=.non
  | v,.bl b=>v=.bl b
  | v,.int i=>v=.int i
  | v,.str x=>v=.str x
  | v,.tup ds=>∃ (p:Addr) (vs:List V),v=.ref p∧H p=some (.tup vs)∧DenL H vs ds
def DenL (H:Hp):List V→List D→Prop
  | [],[]=>True
  | v :: vs,d :: ds=>Den H v d∧DenL H vs ds
  | _,_=>False
end
mutual
theorem Den.same {H H':Hp} (e:Same H H'):∀ {d:D} {v:V},Den H v d→Den H' v d
  | .non,_,h=>h
  | .bl _,_,h=>h
  | .int _,_,h=>h
  | .str _,_,h=>h
  | .tup ds,_,h=>by
    obtain ⟨p,vs,rfl,hp,hd⟩:=h
    exact ⟨p,vs,rfl,e _ _ hp,DenL.same e hd⟩
theorem DenL.same {H H':Hp} (e:Same H H'):∀ {ds:List D} {vs:List V},DenL H vs ds→DenL H' vs ds
  | [],[],_=>trivial
  | _ :: _,_ :: _,h=>⟨Den.same e h.1,DenL.same e h.2⟩
  | [],_ :: _,h=>h.elim
  | _ :: _,[],h=>h.elim
end
theorem DenL.len {H:Hp}:∀ {ds:List D} {vs:List V},DenL H vs ds→vs.length=ds.length
  | [],[],_=>rfl
  | _ :: ds,_ :: vs,h=>by rw [List.length_cons,List.length_cons,DenL.len h.2]
  | [],_ :: _,h=>h.elim
  | _ :: _,[],h=>h.elim
theorem DenL.at_ {H:Hp}:∀ {ds:List D} {vs:List V} {i:Nat} {v:V},DenL H vs ds→vs[i]?=some v→∃ d,ds[i]?=some d∧Den H v d
  | [],[],i,v,_,h=>by simp at h
  | d :: ds,_ :: vs,0,v,h,e=>by
    simp at e
    subst e
    exact ⟨d,rfl,h.1⟩
  | _ :: ds,_ :: vs,i+1,v,h,e=>DenL.at_ (i:=i) h.2 (by simpa using e)
  | [],_ :: _,_,_,h,_=>h.elim
  | _ :: _,[],_,_,h,_=>h.elim
theorem DenL.strs {H:Hp}:∀ xs:List Str,DenL H (xs.map V.str) (xs.map D.str)
  | []=>trivial
  | _ :: r=>⟨rfl,DenL.strs r⟩
theorem DenL.snoc {H:Hp} {v:V} {d:D} (hd:Den H v d):∀ {ds:List D} {vs:List V},DenL H vs ds→DenL H (vs++[v]) (ds++[d])
  | [],[],_=>⟨hd,trivial⟩
  | _ :: _,_ :: _,h=>⟨h.1,DenL.snoc hd h.2⟩
  | [],_ :: _,h=>h.elim
  | _ :: _,[],h=>h.elim
def Shal:Nat→D→Prop
  | 0,d=>d≠.non∧∀ ds,d≠.tup ds
  | n+1,d=>d≠.non∧∀ ds,d=.tup ds→ds.length≤100000∧∀ e∈ds,Shal n e
theorem Shal.up:∀ {n:Nat} {d:D},Shal n d→Shal (n+1) d
  | 0,d,h=>⟨h.1,fun ds e=>absurd e (h.2 ds)⟩
  | n+1,d,h=>⟨h.1,fun ds e=>⟨(h.2 ds e).1,fun x hx=>((h.2 ds e).2 x hx).up⟩⟩
theorem Shal.ne:∀ {n:Nat} {d:D},Shal n d→d≠.non
  | 0,_,h=>h.1
  | _+1,_,h=>h.1
theorem shal_str (x:Str):Shal 0 (.str x):=⟨(fun z=>nomatch z),fun _ z=>nomatch z⟩
theorem shal_int (x:Int):Shal 0 (.int x):=⟨(fun z=>nomatch z),fun _ z=>nomatch z⟩
theorem Has.never {P:Program} {w:World} {K:PySem.W.Frag} {mg:Str→Option Value} {base:Heap} {x:Str} {st:Stmt} {ps:List Str} {sp:Sp} (h:Has K mg x st ps) (no:∀ vs H Q E,¬ sp vs H Q E):Cal P w K mg base x 0 ps sp :=
  h.cal fun f fd F _ _=>⟨fun vs H Q E z=>absurd z (no vs H Q E),fun A outer s H args us vs Q E _ _ _ _ z=>absurd z (no vs H Q E)⟩
theorem den_tup {H:Hp} {ds:List D} {v:V} (h:Den H v (.tup ds)):∃ (p:Addr) (vs:List V),v=.ref p∧H p=some (.tup vs)∧DenL H vs ds:=h
def Same2 (p:Addr) (H H':Hp):Prop:=∀ c o,H c=some o→c≠p→H' c=some o
mutual
theorem Den.keepT {H H':Hp} (e:∀ (b:Addr) (vs:List V),H b=some (.tup vs)→H' b=some (.tup vs)):∀ {d:D} {v:V},Den H v d→Den H' v d
  | .non,_,h=>h
  | .bl _,_,h=>h
  | .int _,_,h=>h
  | .str _,_,h=>h
  | .tup ds,_,h=>by
    obtain ⟨p,vs,rfl,hp,hd⟩:=h
    exact ⟨p,vs,rfl,e _ _ hp,DenL.keepT e hd⟩
theorem DenL.keepT {H H':Hp} (e:∀ (b:Addr) (vs:List V),H b=some (.tup vs)→H' b=some (.tup vs)):∀ {ds:List D} {vs:List V},DenL H vs ds→DenL H' vs ds
  | [],[],_=>trivial
  | _ :: _,_ :: _,h=>⟨Den.keepT e h.1,DenL.keepT e h.2⟩
  | [],_ :: _,h=>h.elim
  | _ :: _,[],h=>h.elim
end
section
variable {X:Cx} {K:PySem.W.Frag} {o e:Expr} {es:List Expr} {to:TE} {t:TA} {name:Str} {apos cpos:Pos} {T id:String} {r:V→List V→Hp→VK→Prop}
theorem ix_tupK (hK:X.K=K):IxR X (rIxT K):=by subst hK; exact ix_tup
end
end L2
namespace L2
open PySem PySem.Spec PyProof.Rows
section
variable {κ:Type} [DecidableEq κ]
def valV (kvs:List (κ × V)) (k:κ):Option V:=(kvs.find? fun kv=>decide (kv.1=k)).map (·.2)
def putK (kvs:List (κ × V)) (k:κ) (v:V):List (κ × V) :=
  if (kvs.any fun kv=>decide (kv.1=k))=true then kvs.map (fun kv=>if kv.1=k then (kv.1,v) else kv) else kvs++[(k,v)]
def dropK (kvs:List (κ × V)) (k:κ):List (κ × V):=kvs.filter fun kv=>decide (kv.1≠k)
theorem valV_pos {p:κ × V} {r:List (κ × V)} {k:κ} (e:p.1=k):valV (p :: r) k=some p.2:=by simp [valV,List.find?_cons,e]
theorem valV_neg {p:κ × V} {r:List (κ × V)} {k:κ} (e:¬ p.1=k):valV (p :: r) k=valV r k:=by simp [valV,List.find?_cons,e]
theorem valV_any (k:κ):∀ kvs:List (κ × V),(kvs.any fun kv=>decide (kv.1=k))=(valV kvs k).isSome
  | []=>rfl
  | p :: r=>by
    rw [List.any_cons]
    by_cases e:p.1=k
    · simp only [valV_pos e,decide_eq_true e,Bool.true_or,Option.isSome_some]
    · rw [valV_neg e,decide_eq_false e,Bool.false_or]; exact valV_any k r
theorem valV_map (k j:κ) (y:V):∀ kvs:List (κ × V),valV (kvs.map fun kv=>if kv.1=k then (kv.1,y) else kv) j=(valV kvs j).map fun x=>if j=k then y else x
  | []=>rfl
  | p :: r=>by
    have ih:=valV_map k j y r
    rw [List.map_cons]
    by_cases h:p.1=k
    · rw [if_pos h]
      by_cases e:p.1=j
      · rw [valV_pos (p:=(p.1,y)) e,valV_pos e,Option.map_some,if_pos (e.symm.trans h)]
      · rw [valV_neg (p:=(p.1,y)) e,valV_neg e,ih]
    · rw [if_neg h]
      by_cases e:p.1=j
      · rw [valV_pos (p:=p) e,valV_pos e,Option.map_some,if_neg (fun z=>h (e.trans z))]
      · rw [valV_neg (p:=p) e,valV_neg e,ih]
theorem valV_snoc (k j:κ) (y:V):∀ kvs:List (κ × V),valV kvs k=none→valV (kvs++[(k,y)]) j=if j=k then some y else valV kvs j
  | [],_=>by
    by_cases e:k=j
    · rw [if_pos e.symm]; exact valV_pos (p:=(k,y)) e
    · rw [if_neg (fun z=>e z.symm)]; exact valV_neg (p:=(k,y)) e
  | p :: r,hn=>by
    rw [List.cons_append]
    have hk:¬ p.1=k:=fun z=>by rw [valV_pos z] at hn; cases hn
    rw [valV_neg hk] at hn
    have ih:=valV_snoc k j y r hn
    by_cases e:p.1=j
    · rw [valV_pos e,valV_pos e,if_neg (fun z=>hk (e.trans z))]
    · rw [valV_neg e,valV_neg e,ih]
theorem valV_put (kvs:List (κ × V)) (k j:κ) (y:V):valV (putK kvs k y) j=if j=k then some y else valV kvs j:=by
  unfold putK
  by_cases a:(kvs.any fun kv=>decide (kv.1=k))=true
  · rw [if_pos a,valV_map]
    rw [valV_any] at a
    by_cases e:j=k
    · obtain ⟨x,hx⟩:=Option.isSome_iff_exists.mp a
      rw [if_pos e,e,hx,Option.map_some,if_pos rfl]
    · rw [if_neg e]
      cases valV kvs j with
      | none=>rfl
      | some x=>rw [Option.map_some,if_neg e]
  · rw [if_neg a]
    refine valV_snoc k j y kvs ?_
    rw [valV_any] at a
    cases q:valV kvs k with
    | none=>rfl
    | some x=>rw [q] at a; exact (a rfl).elim
theorem length_putK (kvs:List (κ × V)) (k:κ) (v:V):(putK kvs k v).length≤kvs.length+1:=by
  unfold putK
  split
  · rw [List.length_map]; omega
  · rw [List.length_append,List.length_cons,List.length_nil]; omega
theorem RelO.isSome_eq {o:Option V} {u:Option Value} (r:RelO o u):o.isSome=u.isSome:=by
  cases o with
  | none=>cases u with
    | none=>rfl
    | some _=>exact (show False from r).elim
  | some _=>cases u with
    | none=>exact (show False from r).elim
    | some _=>rfl
theorem RelO.getD {o:Option V} {u:Option Value} {d:V} {d':Value} (r:RelO o u) (rd:RelV d d'):RelV (o.getD d) (u.getD d'):=by
  cases o with
  | none=>cases u with
    | none=>exact rd
    | some _=>exact (show False from r).elim
  | some _=>cases u with
    | none=>exact (show False from r).elim
    | some _=>exact r
theorem KV.val {kvs:List (κ × V)} {vs:List (κ × Value)} (r:KV kvs vs) (k:κ):RelO (valV kvs k) (valueAt vs k):=by
  unfold KV at r
  induction r with
  | nil=>exact True.intro
  | @cons p q ps qs h t ih =>
    obtain ⟨h1,h2⟩:=h
    by_cases e:p.1=k
    · have e':q.1=k:=h1.symm.trans e
      have b:valueAt (q :: qs) k=some q.2:=by simp [valueAt,List.find?_cons,e']
      rw [valV_pos e,b]; exact h2
    · have e':¬ q.1=k:=fun z=>e (h1.trans z)
      have b:valueAt (q :: qs) k=valueAt qs k:=by simp [valueAt,List.find?_cons,e']
      rw [valV_neg e,b]; exact ih
theorem KV.any {kvs:List (κ × V)} {vs:List (κ × Value)} (r:KV kvs vs) (k:κ):(kvs.any fun kv=>decide (kv.1=k))=vs.any fun kv=>decide (kv.1=k):=by
  unfold KV at r
  induction r with
  | nil=>rfl
  | cons h t ih=>rw [List.any_cons,List.any_cons,ih,h.1]
theorem KV.repl {kvs:List (κ × V)} {vs:List (κ × Value)} (r:KV kvs vs) (k:κ) {y:V} {u:Value} (ry:RelV y u) :
    KV (kvs.map fun kv=>if kv.1=k then (kv.1,y) else kv) (vs.map fun kv=>if kv.1=k then (kv.1,u) else kv):=by
  unfold KV at r ⊢
  induction r with
  | nil=>exact .nil
  | @cons p q ps qs h t ih =>
    rw [List.map_cons,List.map_cons]
    refine .cons ?_ ih
    obtain ⟨h1,h2⟩:=h
    by_cases e:p.1=k
    · rw [if_pos e,if_pos (h1.symm.trans e)]; exact ⟨h1,ry⟩
    · rw [if_neg e,if_neg (fun z=>e (h1.trans z))]; exact ⟨h1,h2⟩
theorem KV.put {kvs:List (κ × V)} {vs:List (κ × Value)} (r:KV kvs vs) (k:κ) {y:V} {u:Value} (ry:RelV y u):KV (putK kvs k y) (stored vs k u):=by
  unfold putK stored
  rw [r.any k]
  by_cases e:(vs.any fun kv=>decide (kv.1=k))=true
  · rw [if_pos e,if_pos e]; exact r.repl k ry
  · rw [if_neg e,if_neg e]; exact Paired.snoc r ⟨rfl,ry⟩
theorem KV.keys {kvs:List (κ × V)} {vs:List (κ × Value)} (r:KV kvs vs):kvs.map (·.1)=vs.map (·.1):=by
  unfold KV at r
  induction r with
  | nil=>rfl
  | cons h t ih=>rw [List.map_cons,List.map_cons,ih,h.1]
theorem KV.length {kvs:List (κ × V)} {vs:List (κ × Value)} (r:KV kvs vs):kvs.length=vs.length:=Paired.length r
end
theorem kV_is {P:Program} {w:World} {k:Key} {u:Value} (r:RelV (kV k) u):(mixKind P w).is k u=true:=by
  cases k with
  | inl i=>obtain ⟨t,e⟩:=(show ∃ t,u=Value.int i t from r); subst e; exact mixKind_int P w i t
  | inr x=>obtain ⟨t,e⟩:=(show ∃ t,u=Value.str x t from r); subst e; exact mixKind_str P w x t
theorem items_are {P:Program} {w:World}:∀ {ks:List Key} {us:List Value},Vals (ks.map kV) us→ItemsAre (mixKind P w) ks us
  | [],_,r=>by rw [List.map_nil] at r; cases r; exact .nil
  | k :: ks,_,r=>by
    rw [List.map_cons] at r
    cases r with
    | cons h t=>exact .cons (kV_is h) (items_are t)
abbrev KT (H:Hp):List (List Key × V)→List (List Key × Addr × Value)→Prop:=Paired fun p q=>p.1=q.1∧H q.2.1=some (.tup (p.1.map kV))∧RelV p.2 q.2.2
theorem KT.val {H:Hp} {kvs:List (List Key × V)} {xs:List (List Key × Addr × Value)} (r:KT H kvs xs) (k:List Key):RelO (valV kvs k) ((atKey xs k).map (·.2)):=by
  induction r with
  | nil=>exact True.intro
  | @cons p q ps qs h t ih =>
    obtain ⟨h1,_,h2⟩:=h
    by_cases e:p.1=k
    · have e':q.1=k:=h1.symm.trans e
      have b:atKey (q :: qs) k=some q.2:=by simp [atKey,List.find?_cons,e']
      rw [valV_pos e,b]; exact h2
    · have e':¬ q.1=k:=fun z=>e (h1.trans z)
      have b:atKey (q :: qs) k=atKey qs k:=by simp [atKey,List.find?_cons,e']
      rw [valV_neg e,b]; exact ih
theorem KT.repl {H:Hp} {kvs:List (List Key × V)} {xs:List (List Key × Addr × Value)} (r:KT H kvs xs) (k:List Key) {y:V} {u:Value} (ry:RelV y u) :
    KT H (kvs.map fun kv=>if kv.1=k then (kv.1,y) else kv) (xs.map (putAt k u)):=by
  induction r with
  | nil=>exact .nil
  | @cons p q ps qs h t ih =>
    rw [List.map_cons,List.map_cons]
    refine .cons ?_ ih
    obtain ⟨h1,h2,h3⟩:=h
    unfold putAt
    by_cases e:p.1=k
    · rw [if_pos e,if_pos (h1.symm.trans e)]; exact ⟨h1,h2,ry⟩
    · rw [if_neg e,if_neg (fun z=>e (h1.trans z))]; exact ⟨h1,h2,h3⟩
theorem KT.put {H:Hp} {kvs:List (List Key × V)} {xs:List (List Key × Addr × Value)} (r:KT H kvs xs) (k:List Key) {b:Addr} {y:V} {u:Value} (hb:H b=some (.tup (k.map kV))) (ry:RelV y u) :
    KT H (putK kvs k y) (storedH xs k b u):=by
  have e:(kvs.any fun kv=>decide (kv.1=k))=(atKey xs k).isSome:=by
    rw [valV_any,(r.val k).isSome_eq,Option.isSome_map]
  unfold putK storedH
  rw [e]
  by_cases q:(atKey xs k).isSome=true
  · rw [if_pos q,if_pos q]; exact r.repl k ry
  · rw [if_neg q,if_neg q]; exact Paired.snoc r ⟨rfl,hb,ry⟩
theorem KT.keeps {H H':Hp} {kvs:List (List Key × V)} {xs:List (List Key × Addr × Value)} (r:KT H kvs xs) (ht:∀ b ys,H b=some (.tup ys)→H' b=some (.tup ys)):KT H' kvs xs :=
  Paired.mapP r fun _ _ z=>⟨z.1,ht _ _ z.2.1,z.2.2⟩
section
variable {P:Program} {w:World} {H:Hp} {h:Heap} {a:Addr}
theorem rd_of {u:HO} (ok:HOk P w H h) (e:Rd H a u):ObjOk P w H h a u:=e.ok ok
theorem dk_rd {kvs:List (Key × V)} (ok:HOk P w H h) (e:Rd H a (.dK kvs)):kvs.length≤sizeLine∧(a == sysModules)=false∧∃ vs,KV kvs vs∧h.DictOf (mixKind P w) a vs :=
  show ObjOk P w H h a (.dK kvs) from rd_of ok e
theorem dk_of {kvs:List (Key × V)} (ok:HOk P w H h) (e:H a=some (.dK kvs)):kvs.length≤sizeLine∧(a == sysModules)=false∧∃ vs,KV kvs vs∧h.DictOf (mixKind P w) a vs:=dk_rd ok (.inl e)
theorem key_of {ks:List Key} (ok:HOk P w H h) (e:H a=some (.tup (ks.map kV))):(tupleKind (mixKind P w)).is h ks a:=by
  obtain ⟨_,its,r,o,h1,h2,n,h3⟩:=(show ObjOk P w H h a (.tup (ks.map kV)) from ok a _ e)
  exact ⟨o,its.toArray,n,h1,h2,h3,by simpa using items_are r⟩
theorem dt_rd {kvs:List (List Key × V)} (ok:HOk P w H h) (e:Rd H a (.dT kvs)):kvs.length≤sizeLine∧(a == sysModules)=false ∧
    ∃ xs,KT H kvs xs∧h.DictOfH (tupleKind (mixKind P w)) a xs:=by
  obtain ⟨z,y,xs,r,o,es,ep,h1,h2,h3,h4,h5⟩:=(show ObjOk P w H h a (.dT kvs) from rd_of ok e)
  refine ⟨z,y,xs,r,o,es,ep,h1,h2,h3,h4,fun x hx=>?_,h5⟩
  have all:∀ {l:List (List Key × V)} {m:List (List Key × Addr × Value)},KT H l m→∀ x∈m,(tupleKind (mixKind P w)).is h x.1 x.2.1:=by
    intro l m q
    induction q with
    | nil=>intro x hx; exact nomatch hx
    | @cons p q ps qs hq t ih =>
      intro x hx
      rcases List.mem_cons.mp hx with e | hx
      · subst e
        exact key_of ok (by rw [← hq.1]; exact hq.2.1)
      · exact ih x hx
  exact all r x hx
theorem dt_of {kvs:List (List Key × V)} (ok:HOk P w H h) (e:H a=some (.dT kvs)):kvs.length≤sizeLine∧(a == sysModules)=false ∧
    ∃ xs,KT H kvs xs∧h.DictOfH (tupleKind (mixKind P w)) a xs:=dt_rd ok (.inl e)
end
def DGet (H:Hp) (a:Addr) (y:V) (r:Option V):Prop :=
  (∃ kvs k,Rd H a (.dK kvs)∧y=kV k∧r=valV kvs k)∨∃ kvs k b,Rd H a (.dT kvs)∧y=.ref b∧H b=some (.tup (k.map kV))∧r=valV kvs k
def DPut (H:Hp) (a:Addr) (y v:V) (H':Hp):Prop :=
  (∃ kvs k,H a=some (.dK kvs)∧y=kV k∧kvs.length < sizeLine∧H'=upd H a (.dK (putK kvs k v))) ∨
  ∃ kvs k b,H a=some (.dT kvs)∧y=.ref b∧H b=some (.tup (k.map kV))∧kvs.length < sizeLine∧H'=upd H a (.dT (putK kvs k v))
theorem DGet.k {H:Hp} {a:Addr} {kvs:List (Key × V)} {k:Key} (e:H a=some (.dK kvs)):DGet H a (kV k) (valV kvs k):=.inl ⟨kvs,k,.inl e,rfl,rfl⟩
theorem DPut.k {H:Hp} {a:Addr} {kvs:List (Key × V)} {k:Key} {v:V} (e:H a=some (.dK kvs)) (hl:kvs.length < sizeLine):DPut H a (kV k) v (upd H a (.dK (putK kvs k v))):=.inl ⟨kvs,k,e,rfl,hl,rfl⟩
section
variable {X:Cx} {pins:List (Addr × Obj)} {σ:St} {H:Hp} {s:Shared} {a:Addr} {y v:V} {u r:Value} {o:Option V} {A:Around} {E:Value→Shared→Prop}
theorem Inv.big (I:Inv X pins σ H s):sysModules < s.heap.objs.size:=by
  have h:mainGlobals < s.heap.objs.size:=(I.mod.glob.keeps I.bk).lt
  exact Nat.lt_trans (by decide) h
theorem d_getItem {Q:Value→Shared→Prop} (hu:A.units+1 < cLine) (I:Inv X pins σ H s) (g:DGet H a y (some v)) (ry:RelV y u) (h:∀ w' s',Inv X pins σ H s'→RelV v w'→Q w' s') :
    wpAny (model X.prog X.w) A (getItem (.ref a) u) Q E s:=by
  rcases g with ⟨kvs,k,e,ey,l⟩ | ⟨kvs,k,b,e,ey,eb,l⟩
  · subst ey
    obtain ⟨z,hd,vs,rel,dd⟩:=dk_rd I.hok e
    obtain ⟨w',hw,rw'⟩:=RelO.some_of (v:=v) (o:=valueAt vs k) (by rw [l]; exact rel.val k)
    exact wpAny_getItem_of (kV_is ry) dd.mapOf hw (h w' _ (I.tok _) rw')
  · subst ey
    cases (show u=Value.ref b from ry)
    obtain ⟨z,hd,xs,rel,dd⟩:=dt_rd I.hok e
    obtain ⟨w',hw,rw'⟩:=RelO.some_of (v:=v) (o:=(atKey xs k).map (·.2)) (by rw [l]; exact rel.val k)
    obtain ⟨p,hp,hp2⟩:=Option.map_eq_some_iff.mp hw
    refine wpAny_getItem_heap (tupleKind_room_in1 hu) (key_of I.hok eb) dd hp ?_
    rw [hp2]
    exact h w' _ (I.tok _) rw'
theorem d_write {h':Heap} {t':Nat} {ob:HO} (I:Inv X pins σ H s) (mu:Mut (H a)) (hs:Heap.SameBut a s.heap h') (he:∃ q,h'.get? a=some q) (new:ObjOk X.prog X.w (upd H a ob) h' a ob) :
    Inv X pins σ (upd H a ob) { s with heap:=h',toks:=t' } :=
  I.write (x:=a) (e:=a) mu (.inl rfl) (fun b q hb z=>(hs.2 b hb).trans z) he new
theorem dk_new {P:Program} {w:World} {H':Hp} {h':Heap} {kvs:List (Key × V)} {vs:List (Key × Value)} (z:kvs.length≤sizeLine) (hd:(a == sysModules)=false) (rel:KV kvs vs) (dd:h'.DictOf (mixKind P w) a vs) :
    ObjOk P w H' h' a (.dK kvs):=⟨z,hd,vs,rel,dd⟩
theorem d_setItem {H':Hp} {Q:Unit→Shared→Prop} (hu:A.units+1 < cLine) (I:Inv X pins σ H s) (g:DPut H a y v H') (ry:RelV y u) (rv:RelV v r) (h:∀ s',Inv X pins σ H' s'→Q () s') :
    wpAny (model X.prog X.w) A (setItem (.ref a) u r) Q E s:=by
  rcases g with ⟨kvs,k,e,ey,l,eH⟩ | ⟨kvs,k,b,e,ey,eb,l,eH⟩
  · subst ey eH
    obtain ⟨z,hd,vs,rel,dd⟩:=dk_of I.hok e
    have hz:vs.length≤sizeLine:=by rw [← rel.length]; exact z
    have hl:(putK kvs k v).length≤sizeLine:=by have:=length_putK kvs k v; omega
    refine wpAny_setItem_pairs (hsz:=hz) (kV_is ry) dd fun h' dd' hs=>h _ ?_
    have he:∃ q,h'.get? a=some q:=let ⟨q,_,_,hq,_⟩:=dd'; ⟨q,hq⟩
    exact d_write I (by rw [e]; exact True.intro) hs he (dk_new hl hd (rel.put k rv) dd')
  · subst ey eH
    cases (show u=Value.ref b from ry)
    obtain ⟨z,hd,xs,rel,dd⟩:=dt_of I.hok e
    have hz:xs.length≤sizeLine:=by rw [← Paired.length rel]; exact z
    have hl:(putK kvs k v).length≤sizeLine:=by have:=length_putK kvs k v; omega
    refine wpAny_setItem_heap (hsz:=hz) (tupleKind_room_in1 hu) (key_of I.hok eb) dd fun h' dd' hs=>h _ ?_
    obtain ⟨q,es,ep,hq,h2,h3,h4,_,h5⟩:=dd'
    refine d_write I (by rw [e]; exact True.intro) hs ⟨q,hq⟩ ⟨hl,hd,_,(rel.put k eb rv).keeps fun c ys ec=>?_,q,es,ep,hq,h2,h3,h4,h5⟩
    rw [upd_ne (ne_of ec e (fun z=>nomatch z))]
    exact ec
end
section
variable {X:Cx} {pins:List (Addr × Obj)} {σ:St} {H:Hp} {s:Shared} {a:Addr} {kvs:List (Key × V)} {k:Key} {u:Value} {A:Around} {E:Value→Shared→Prop}
end
def NoSl (i:Expr):Prop:=∀ ov iv,subscripted i false ov iv=operate [ov,iv] (getItem ov iv)
theorem subD_of {prog:Program} {w:World} {A:Around} {E:Value→Shared→Prop} {s:Shared} {env:Env} {value slice:Expr} {pos:Pos} {T id:String} {Q:Value→Shared→Prop}
    (hl:typeLookup (.type T) "__getitem__" = pure (some (.builtin id))) (hs:NoSl slice)
    (h:wpAny (model prog w) A (eval value env) (fun o s₁=>wpAny (model prog w) A (eval slice env) (fun i s₂=>s₂.TypeIs o T∧wpAny (model prog w) A (getItem o i) Q E s₂) E s₁) E s) :
    wpAny (model prog w) A (eval (.Subscript value slice pos) env) Q E s:=by
  refine Subscript_ (wpAny_mono h (fun o s₁ h₁=>wpAny_mono h₁ (fun i s₂ h₂=>?_) fun _ _ x=>x) fun _ _ x=>x)
  obtain ⟨hT,h₂⟩:=h₂
  unfold subscriptTail
  refine wpAny_bind ?_
  rw [getitemInPython_of_ne hT.not_modules]
  refine wpAny_bind (wpAny_specialOf hT hl ?_)
  have fin:wpAny (model prog w) A (subscripted slice false o i) (fun r s₃=>wpAny (model prog w) A (letTemporaryGo value o r >>= fun _=>pure r) Q E s₃) E s₂:=by
    rw [hs o i]
    exact wpAny_operating (wpAny_mono h₂ (fun r s₃ h₃=>wpAny_bind (wpAny_letTemporaryGo (wpAny_pure h₃))) fun _ _ x=>x)
  first
    | exact wpAny_pure (wpAny_bind fin)
    | exact wpAny_bind (wpAny_pure (wpAny_bind fin))
    | exact wpAny_bind fin
theorem dict_typeIs {X:Cx} {pins:List (Addr × Obj)} {σ:St} {H:Hp} {s:Shared} {a:Addr} {y:V} {o:Option V} (I:Inv X pins σ H s) (g:DGet H a y o):s.TypeIs (.ref a) "dict":=by
  rcases g with ⟨kvs,k,e,_,_⟩ | ⟨kvs,k,b,e,_,_,_⟩
  · obtain ⟨_,_,vs,_,dd⟩:=dk_rd I.hok e
    exact dd.typeIs
  · obtain ⟨_,_,xs,_,dd⟩:=dt_rd I.hok e
    exact dd.typeIs
def tDGet (td ty:TE):TE:=fun σ H Q=>td σ H fun x H1=>ty σ H1 fun y H2=>∃ a v,x=.ref a∧DGet H2 a y (some v)∧Q v H2
def sDPut (td ty tv:TE):TS:=fun D σ H=>tv σ H fun v H1=>td σ H1 fun x H2=>ty σ H2 fun y H3=>∃ a H4,x=.ref a∧DPut H3 a y v H4∧D.nx σ H4
section
variable {X:Cx} {o i e value:Expr} {pos pos' tpos:Pos} {td ty tv:TE}
theorem pe_dget (hu:X.A.units+1 < cLine) (ho:PE X o td) (hi:PE X i ty) (hs:NoSl i):PE X (.Subscript o i pos) (tDGet td ty):=by
  intro pins s σ H Q I h
  refine subD_of PySem.F.slot_dict_getitem.lookup hs (thn (ho pins s σ H _ I h) fun u s1 ⟨x,H1,I1,rx,q1⟩=>thn (hi pins s1 σ H1 _ I1 q1) fun iv s2 ⟨y,H2,I2,ry,a,v,ex,g,q2⟩=>?_)
  subst ex
  obtain rfl:u=Value.ref a:=rx
  exact ⟨dict_typeIs I2 g,d_getItem hu I2 g ry fun w' s3 I3 rw'=>⟨v,H2,I3,rw',q2⟩⟩
theorem ps_dput (hu:X.A.units+1 < cLine) (ho:PE X o td) (hi:PE X i ty) (hv:PE X value tv) (hs:swapsWith value (some (.Subscript o i pos')) pos.line X.env=pure false) :
    PS X (.Assign [.Subscript o i pos'] value pos) (sDPut td ty tv):=by
  intro pins s σ H D I h
  refine wpAny_Assign_Subscript (thn (hv pins s σ H _ I h) fun r s1 ⟨v,H1,I1,rv,q1⟩=>thn (ho pins s1 σ H1 _ I1 q1) fun u s2 ⟨x,H2,I2,rx,q2⟩=>thn (hi pins s2 σ H2 _ I2 q2) fun iv s3 ⟨y,H3,I3,ry,a,H4,ex,g,q3⟩=>?_) hs
  subst ex
  obtain rfl:u=Value.ref a:=rx
  exact d_setItem hu I3 g ry rv fun s4 I4=>⟨σ,H4,I4,q3⟩
end
theorem dk_empty {P:Program} {w:World} {H:Hp} (h:Heap) (hb:sysModules < h.objs.size):ObjOk P w H (h.push { cls:=.type "dict",data:=.dict #[] }) h.objs.size (.dK []) :=
  ⟨Nat.zero_le _,beq_eq_false_iff_ne.mpr (Ne.symm (Nat.ne_of_lt hb)),[],.nil,Heap.DictOf.new h⟩
def tDNewK:TE:=fun _ H Q=>∀ p,H p=none→Q (.ref p) (upd H p (.dK []))
section
variable {X:Cx} {pos:Pos}
theorem pe_dnewK:PE X (.Dict [] [] pos) tDNewK:=fun pins s σ H Q I h =>
  wpAny_Dict_empty ⟨.ref s.heap.objs.size,_,I.laid (a:=s.heap.objs.size) (o:=.dK []) (t':=s.toks) (fun _ _ q=>Heap.get?_push_of_some _ q) (Nat.le_refl _) (dk_empty s.heap I.big),rfl,h _ (I.hok.fresh (Nat.le_refl _))⟩
end
def tPairs:List (TE × TE)→St→Hp→(List (V × V)→Hp→Prop)→Prop
  | [],_,H,Q=>Q [] H
  | (tk,tv) :: r,σ,H,Q=>tk σ H fun x H1=>tv σ H1 fun y H2=>tPairs r σ H2 fun ps H3=>Q ((x,y) :: ps) H3
abbrev VV:List (V × V)→List (Value × Value)→Prop:=Paired fun p q=>RelV p.1 q.1∧RelV p.2 q.2
def PPs (X:Cx) (pos:Pos) (keys:List (Option Expr)) (values:List Expr) (trs:List (TE × TE)):Prop :=
  ∀ (pins:List (Addr × Obj)) (s:Shared) (σ:St) (H:Hp) (Q:List (V × V)→Hp→Prop),Inv X pins σ H s→tPairs trs σ H Q →
    wpAny (model X.prog X.w) X.A (evalPairs (pairTrees keys values X.env pos)) (fun vs s'=>∃ ps H',Inv X pins σ H' s'∧VV ps vs∧Q ps H') X.xe s
theorem pps_nil {X:Cx} {pos:Pos}:PPs X pos [] [] []:=fun pins s σ H Q I h=>pairTrees_nil_walk ⟨[],H,I,.nil,h⟩
theorem pps_cons {X:Cx} {pos:Pos} {k v:Expr} {ks:List (Option Expr)} {vs:List Expr} {tk tv:TE} {trs:List (TE × TE)} (hk:PE X k tk) (hv:PE X v tv) (hr:PPs X pos ks vs trs) :
    PPs X pos (some k :: ks) (v :: vs) ((tk,tv) :: trs):=fun pins s σ H Q I h =>
  pairTrees_cons_walk (thn (hk pins s σ H _ I h) fun u s1 ⟨x,H1,I1,rx,q1⟩=>thn (hv pins s1 σ H1 _ I1 q1) fun w2 s2 ⟨y,H2,I2,ry,q2⟩ =>
    thn (hr pins s2 σ H2 _ I2 q2) fun ws s3 ⟨ps,H3,I3,rel,q3⟩=>⟨(x,y) :: ps,H3,I3,.cons ⟨rx,ry⟩ rel,q3⟩)
def mergeK (kvs more:List (Key × V)):List (Key × V):=more.foldl (fun acc kv=>putK acc kv.1 kv.2) kvs
theorem KV.merge:∀ {more:List (Key × V)} {rs:List (Key × Value)} {kvs:List (Key × V)} {vs:List (Key × Value)},KV more rs→KV kvs vs→KV (mergeK kvs more) (merged vs rs):=by
  intro more rs kvs vs r
  unfold KV at r
  induction r generalizing kvs vs with
  | nil=>intro q; exact q
  | @cons p q ps qs h t ih =>
    intro r0
    have e:KV (putK kvs p.1 p.2) (stored vs q.1 q.2):=by
      have:=r0.put p.1 h.2
      rw [← h.1]; exact this
    exact ih e
theorem length_mergeK:∀ (more kvs:List (Key × V)),(mergeK kvs more).length≤kvs.length+more.length
  | [],kvs=>by show kvs.length≤kvs.length+0; omega
  | p :: r,kvs=>by
    have h1:=length_mergeK r (putK kvs p.1 p.2)
    have h2:=length_putK kvs p.1 p.2
    show (mergeK (putK kvs p.1 p.2) r).length≤_
    rw [List.length_cons]; omega
theorem carries_of {P:Program} {w:World}:∀ {kvs:List (Key × V)} {ws:List (Value × Value)},VV (kvs.map fun kv=>(kV kv.1,kv.2)) ws→∃ rs,Carries (mixKind P w) ws rs∧KV kvs rs
  | [],_,r=>by rw [List.map_nil] at r; cases r; exact ⟨[],True.intro,.nil⟩
  | p :: kvs,_,r=>by
    rw [List.map_cons] at r
    cases r with
    | @cons a b as bs h t =>
      obtain ⟨rs,c,q⟩:=carries_of (P:=P) (w:=w) t
      obtain ⟨b1,b2⟩:=b
      exact ⟨(p.1,b2) :: rs,⟨kV_is h.1,rfl,c⟩,.cons ⟨rfl,h.2⟩ q⟩
def tDisp (trs:List (TE × TE)):TE:=fun σ H Q=>∀ p,H p=none→tPairs trs σ (upd H p (.dK [])) fun ps H2=>H2 p=some (.dK [])∧∃ kvs:List (Key × V),ps=kvs.map (fun kv=>(kV kv.1,kv.2))∧kvs.length≤15∧Q (.ref p) (upd H2 p (.dK (mergeK [] kvs)))
theorem pe_disp {X:Cx} {pos:Pos} {keys:List (Option Expr)} {values:List Expr} {trs:List (TE × TE)} (h:PPs X pos keys values trs) (hall:keys.all (·.isSome)=true) (hl:keys.length=values.length) (h0:keys≠[])
    (h15:keys.length≤15):PE X (.Dict keys values pos) (tDisp trs):=by
  intro pins s σ H Q I q
  have hn:=I.hok.fresh (Nat.le_refl s.heap.objs.size)
  have I1:=I.laid (a:=s.heap.objs.size) (o:=.dK []) (h':=s.heap.push { cls:=.type "dict",data:=.dict #[] }) (t':=s.toks) (fun _ _ q=>Heap.get?_push_of_some _ q) (Nat.le_refl _) (dk_empty s.heap I.big)
  refine wpAny_Dict_walk (knd:=mixKind X.prog X.w) hall hl h0 h15 (thn (h pins _ σ _ _ I1 (q _ hn)) fun ws s2 ⟨ps,H2,I2,rel,e,kvs,ep,lk,q2⟩=>?_)
  subst ep
  obtain ⟨rs,c,rk⟩:=carries_of (P:=X.prog) (w:=X.w) rel
  obtain ⟨z,hd,vs0,r0,dd⟩:=dk_of I2.hok e
  cases r0
  refine ⟨rs,c,dd,fun h' dd' hs=>⟨.ref s.heap.objs.size,_,?_,rfl,q2⟩⟩
  have hz:(mergeK [] kvs).length≤sizeLine:=by
    have h1:=length_mergeK kvs []
    rw [List.length_nil] at h1
    rw [sizeLine_eq]; omega
  have he:∃ q,h'.get? s.heap.objs.size=some q:=let ⟨q,_,_,hq,_⟩:=dd'; ⟨q,hq⟩
  exact d_write I2 (by rw [e]; exact True.intro) hs he (dk_new hz hd (rk.merge .nil) dd')
structure M1 (X:Cx) (o:Expr) (m:Str) (apos:Pos) (e:Expr) (cpos:Pos):Prop where
  base:attributeBase o m X.env (eval o X.env)=eval o X.env
  few:((backTo cpos (starEach [e] X.env)).all (fun x=>!x.1) && (backToKw cpos (keywordEach [] X.env)).all (fun x=>x.1.isSome)
    && decide (([e]:List Expr).length+([]:List Keyword).length+(if ([]:List Keyword).isEmpty then 0 else 1) < 30))=true
  line:(apos.endLine == cpos.line)=true
  trees:backTo cpos (starEach [e] X.env)=[(false,eval e X.env)]
structure M2 (X:Cx) (o:Expr) (m:Str) (apos:Pos) (e f:Expr) (cpos:Pos):Prop where
  base:attributeBase o m X.env (eval o X.env)=eval o X.env
  few:((backTo cpos (starEach [e,f] X.env)).all (fun x=>!x.1) && (backToKw cpos (keywordEach [] X.env)).all (fun x=>x.1.isSome)
    && decide (([e,f]:List Expr).length+([]:List Keyword).length+(if ([]:List Keyword).isEmpty then 0 else 1) < 30))=true
  line:(apos.endLine == cpos.line)=true
  trees:backTo cpos (starEach [e,f] X.env)=[(false,eval e X.env),(false,eval f X.env)]
section
variable {X:Cx} {pins:List (Addr × Obj)} {σ:St} {H:Hp} {s:Shared} {a:Addr} {y d:V} {u r:Value} {o:Option V} {A:Around} {E:Value→Shared→Prop}
end
section
variable {X:Cx} {o e f:Expr} {apos cpos:Pos} {td ty tx:TE}
end
section
variable {X:Cx} {pins:List (Addr × Obj)} {σ:St} {H:Hp} {s:Shared} {a:Addr} {kvs:List (Key × V)} {A:Around} {E:Value→Shared→Prop}
end
section
variable {X:Cx} {pins:List (Addr × Obj)} {σ:St} {H:Hp} {s:Shared} {a:Addr} {y:V} {u:Value} {A:Around} {E:Value→Shared→Prop}
end
end L2
namespace MD
open PySem
abbrev kwD (d:Value):List (Str × Value):=[(Str.ofString "default",d)]
section
variable {prog:Program} {w:World} {A:Around} {R:Result→Shared→Prop} {It:Addr} {fp wr:List Addr} {n:Nat} {Pr:Nat→Value→Prop} {Sx:Nat→Heap→Prop}
end
section
variable {prog:Program} {w:World} {A:Around} {E:Value→Shared→Prop} {s:Shared}
end
end MD
namespace MQ
open PySem
theorem no_keys:typeLookup (.type "list") "keys" = pure none:=am_miss_of_fast (by decide +kernel)
end MQ
namespace DP
open PySem
section
variable {prog:Program} {w:World} {K:Type} [DecidableEq K] {knd:KeyKind prog w K} {A:Around} {R:Result→Shared→Prop} {It:Addr} {fp wr:List Addr} {n:Nat} {Pr:Nat→Value→Prop} {Sx:Nat→Heap→Prop}
end
end DP
namespace DP
open PySem
section
variable {prog:Program} {w:World} {K:Type} [DecidableEq K] {knd:KeyKind prog w K} {A:Around} {E:Value→Shared→Prop} {s:Shared}
end
end DP
namespace L2
open PySem PySem.Spec PyProof.Rows
def Prs (H:Hp):List V→List (Key × V)→Prop:=Paired fun v kv=>∃ p:Addr,v=.ref p∧H p=some (.tup [kV kv.1,kv.2])
end L2
namespace L2
open PySem PySem.Spec PyProof.Rows
end L2
namespace M08
def lng (t:List Nat):List (List Nat)→Nat
  | []=>0
  | c :: cs=>max (if c.isPrefixOf t=true then c.length else 0) (lng t cs)
def ended (ms ks:List (List Nat)) (t:List Nat):Nat:=if lng t ks=0 then lng t ms else 0
def stepN (ms ks:List (List Nat)) (t:List Nat):Nat:=max (max (lng t ks) (ended ms ks t)) 1
def cutN (ms ks:List (List Nat)):Nat→List Nat→List Nat→List (List Nat)
  | _,acc,[]=>if acc=[] then [] else [acc]
  | 0,_,_ :: _=>[]
  | n+1,acc,c :: r =>
    if ended ms ks (c :: r)=0 then cutN ms ks n (acc++(c :: r).take (stepN ms ks (c :: r))) ((c :: r).drop (stepN ms ks (c :: r)))
    else (acc++(c :: r).take (stepN ms ks (c :: r))) :: cutN ms ks n [] ((c :: r).drop (stepN ms ks (c :: r)))
end M08
namespace SLi
open PySem
theorem clip (a b n:Nat):Builtin.Str.strSliceIndices (some (a:Int)) (some (b:Int)) 1 n=Builtin.Str.strSliceIndices (some ((min a n:Nat):Int)) (some ((min b n:Nat):Int)) 1 n:=by
  have e1:¬ ((a:Int) < 0):=by omega
  have e2:¬ ((b:Int) < 0):=by omega
  have e3:¬ (((min a n:Nat):Int) < 0):=by omega
  have e4:¬ (((min b n:Nat):Int) < 0):=by omega
  have h1:max (0:Int) (min (a:Int) (n:Int))=max 0 (min ((min a n:Nat):Int) (n:Int)):=by omega
  have h2:max (0:Int) (min (b:Int) (n:Int))=max 0 (min ((min b n:Nat):Int) (n:Int)):=by omega
  simp only [Builtin.Str.strSliceIndices,e1,e2,e3,e4,if_false,h1,h2]
  rfl
theorem both (x:Str) {a b:Nat} (h:a≤b):Txt.slice x (some (a:Int)) (some (b:Int))=⟨((x.cps.toList.drop a).take (b - a)).toArray⟩:=by
  have hl:x.cps.toList.length=x.length:=by simp [Str.length]
  have e:Txt.slice x (some (a:Int)) (some (b:Int))=Txt.slice x (some ((min a x.length:Nat):Int)) (some ((min b x.length:Nat):Int)):=by
    unfold Txt.slice
    rw [clip]
  rw [e]
  have p:=StrLaws.sliceText_plain (x:=x) (i:=((min a x.length:Nat):Int)) (j:=((min b x.length:Nat):Int)) ⟨by omega,by omega,by omega⟩
  have p':Txt.slice x (some ((min a x.length:Nat):Int)) (some ((min b x.length:Nat):Int))=_:=p
  rw [p']
  congr 1
  have e1:(((min a x.length:Nat):Int)).toNat=min a x.length:=by omega
  have e2:(((min b x.length:Nat):Int) - ((min a x.length:Nat):Int)).toNat=min b x.length - min a x.length:=by omega
  rw [e1,e2]
  congr 1
  by_cases ha:a≤x.length
  · rw [Nat.min_eq_left ha]
    by_cases hb:b≤x.length
    · rw [Nat.min_eq_left hb]
    · rw [Nat.min_eq_right (by omega)]
      rw [List.take_of_length_le (by rw [List.length_drop]; omega),List.take_of_length_le (by rw [List.length_drop]; omega)]
  · rw [Nat.min_eq_right (by omega),List.drop_eq_nil_of_le (by omega),List.drop_eq_nil_of_le (by omega)]
    simp
theorem upto (x:Str) (b:Nat):Txt.slice x none (some (b:Int))=⟨(x.cps.toList.take b).toArray⟩:=by
  have e:Txt.slice x none (some (b:Int))=Txt.slice x (some ((0:Nat):Int)) (some (b:Int)):=by
    unfold Txt.slice
    rw [StrLaws.sliceIdx_none_lo]
    rfl
  rw [e,both x (Nat.zero_le b)]
  simp
theorem from_ (x:Str) (a:Nat):Txt.slice x (some (a:Int)) none=⟨(x.cps.toList.drop a).toArray⟩:=by
  have hl:x.cps.toList.length=x.length:=by simp [Str.length]
  have e:Txt.slice x (some (a:Int)) none=Txt.slice x (some (a:Int)) (some (x.length:Int)):=by
    unfold Txt.slice
    rw [StrLaws.sliceIdx_none_hi]
  rw [e]
  by_cases h:a≤x.length
  · rw [both x h,List.take_of_length_le (by rw [List.length_drop]; omega)]
  · have e2:Txt.slice x (some (a:Int)) (some (x.length:Int))=Txt.slice x (some ((x.length:Nat):Int)) (some (x.length:Int)):=by
      unfold Txt.slice
      rw [clip,clip x.length x.length]
      rw [Nat.min_eq_right (by omega:x.length≤a),Nat.min_self]
    rw [e2,both x (Nat.le_refl _),List.drop_eq_nil_of_le (by omega:x.cps.toList.length≤a),Nat.sub_self]
    simp
end SLi
namespace L2
open PySem PySem.Spec PyProof.Rows M08
abbrev mkT (r:List Nat):V:=V.str ⟨r.toArray⟩
abbrev sD (r:List Nat):D:=.str ⟨r.toArray⟩
structure OkC (cs:List (List Nat)):Prop where
  few:cs.length≤100
  size:∀ c∈cs,1≤c.length∧c.length≤8
theorem at_T {cs:List (List Nat)} {i:Nat} (hi:i < cs.length):(cs.map mkT)[i]?=some (mkT cs[i]):=by
  rw [List.getElem?_map,List.getElem?_eq_getElem hi]
  rfl
theorem atI_zero {α:Type} (x:α) (xs:List α):atI (x :: xs) 0=some x:=atI_nat (xs:=x :: xs) (j:=0) rfl
end L2
namespace L2
open PySem PySem.Spec PyProof.Rows M08
def rInsert:V→List V→Hp→VK→Prop:=fun x vs H Q=>∃ (l:Addr) (xs:List V) (n:Int) (y:V) (i:Nat),x=.ref l∧vs=[.int n,y]∧n=(i:Int)∧H l=some (.lst xs)∧i≤xs.length∧xs.length < 1000000∧Q .non (upd H l (.lst (xs.take i++y :: xs.drop i)))
theorem mt_insert {X:Cx}:MtR X "list.insert" rInsert:=by
  intro pins s σ H x vs v us Q I rx rv h
  obtain ⟨l,xs,m,y,i,rfl,rfl,hm,hH,hi,hz,q⟩:=h
  cases rx
  obtain ⟨u,u',rfl,⟨t,rfl⟩,ry⟩:=vals2 rv
  obtain ⟨z,its,n,r,hl,e⟩:=I.lstM hH
  have hb:=sizeLine_big
  have hf:¬ (!Builtin.List.listFitsIndex m)=true:=by
    unfold Builtin.List.listFitsIndex
    have h1:(-(2 ^ 63:Int)≤m):=by omega
    have h2:(m < 2 ^ 63):=by omega
    rw [decide_eq_true h1,decide_eq_true h2]
    decide
  have hsz:its.toArray.size≤sizeLine:=by rw [List.size_toArray,← hl]; exact z
  refine call_meets F.slot_list_insert ⟨_,e,rfl⟩ F.entry_list_insert (F.args_list_insert_3 _ _ _) (PySem.AutoListH.list_insert_list_int_val_1 l its.toArray n m t u' hf hsz) ⟨e,?_⟩
  refine ⟨.non,_,I.lset (its':=its.take i++u' :: its.drop i) hH e ?_ ((r.take i).append (.cons ry (r.drop i))) ?_,rfl,q⟩
  · have hk:(if m < 0 then (m+((its.toArray.size:Nat):Int)).toNat else min m.toNat its.toArray.size)=i:=by
      rw [if_neg (by omega),List.size_toArray]
      omega
    show (have k:=if m < 0 then (m+((its.toArray.size:Nat):Int)).toNat else min m.toNat its.toArray.size; (its.toArray.extract 0 k).push u'++its.toArray.extract k)=_
    rw [hk]
    apply Array.toList_inj.mp
    rw [Array.toList_append,Array.toList_push,Array.toList_extract,Array.toList_extract,List.extract_eq_take_drop,List.extract_eq_take_drop]
    simp
    exact List.take_of_length_le (by rw [List.length_drop]; omega)
  · rw [List.length_append,List.length_cons,List.length_take,List.length_drop]
    omega
end L2
namespace M08
end M08
namespace M05
def nmN:Nat→Nat→List Nat
  | 0,_=>[]
  | f+1,r=>if r=0 then [] else nmN f ((r - 1) / 26)++[97+(r - 1) % 26]
def nm (r:Nat):List Nat:=nmN r r
end M05
namespace M05
end M05
namespace L2
open PySem PySem.Spec PyProof.Rows
def rCat2:R2:=fun x y H Q=>∃ (a b:Addr) (xs ys:List V),x=.ref a∧y=.ref b∧H a=some (.tup xs)∧H b=some (.tup ys)∧xs.length+ys.length≤sizeLine∧∀ (q:Addr) (H':Hp),Same H H'→H' q=some (.tup (xs++ys))→Q (.ref q) H'
theorem op_catT2 {X:Cx}:OpR X (binaryOp .Add) rCat2:=by
  intro pins s σ H x y v u Q I rx ry h
  obtain ⟨a,b,xs,ys,rfl,rfl,ha,hb,hz,q⟩:=h
  cases xs with
  | cons x1 xs =>
    refine op_catT pins s σ H (.ref a) (.ref b) v u Q I rx ry ⟨a,b,_,_,rfl,rfl,SqT.of ha,SqT.of hb,by simp,hz,fun z=>?_,fun z p hp=>q p _ (same_new hp _) upd_same⟩
    refine q a H (Same.refl H) ?_
    rw [ha,z,List.append_nil]
  | nil =>
    cases rx
    cases ry
    obtain ⟨its,r1,p1,_⟩:=I.tuple (SqT.of (K:=X.K) ha)
    obtain ⟨its2,r2,p2,_⟩:=I.tuple (SqT.of (K:=X.K) hb)
    cases r1
    obtain ⟨⟨cls,dd,data,sl⟩,ho,hc,n,hd⟩:=id p1
    obtain ⟨⟨cls2,dd2,data2,sl2⟩,ho2,hc2,n2,hd2⟩:=id p2
    simp only at hc hd hc2 hd2
    subst hc hd hc2 hd2
    refine concat_meets ⟨_,ho,rfl⟩ ⟨_,ho2,rfl⟩ noFill_tuple_add seq_tuple_add PySem.F.slot_tuple_add PySem.F.entry_tuple_add (PySem.F.args_tuple_add_2 _ _) (tuple_addW0 a b _ its2.toArray n n2 dd dd2 sl sl2 rfl) ⟨ho,ho2,?_⟩
    exact ⟨.ref b,H,I,rfl,q b H (Same.refl H) hb⟩
theorem inV_str (a:Str):∀ xs:List Str,inV (.str a) (xs.map V.str)=decide (a∈xs)
  | []=>rfl
  | x :: xs=>by
    have ih:=inV_str a xs
    unfold inV at ih ⊢
    rw [List.map_cons,List.any_cons,ih]
    show (x == a || decide (a∈xs))=_
    rw [Bool.eq_iff_iff,Bool.or_eq_true,decide_eq_true_eq,decide_eq_true_eq,List.mem_cons,beq_iff_eq]
    constructor
    · rintro (h | h)
      · exact .inl h.symm
      · exact .inr h
    · rintro (h | h)
      · exact .inl h.symm
      · exact .inr h
end L2
namespace ET
open PySem
open Sem (wp)
open AutoSeq1 (wpAny_loadPart')
end ET
namespace L2
open PySem PySem.Spec PyProof.Rows
theorem getItem_tuple_all {prog:Program} {w:World} {A:Around} {E:Value→Shared→Prop} {s:Shared} {t sl:Addr} {items:Array Value} {vl vu:Value} {lo hi:Option Int} {Q:Value→Shared→Prop} (ht:IsTup s.heap t items) (hs:s.heap.IsSliceOf sl vl vu .none) (pl:IsPart vl lo) (pu:IsPart vu hi)
    (hw:HT.sIx items.size 0 lo=0∧HT.sIx items.size items.size hi=items.size) (h:Q (.ref t) s):wpAny (model prog w) A (getItem (.ref t) (.ref sl)) Q E s:=by
  obtain ⟨os,hos,hcs,hds⟩:=id hs
  have hTs:s.TypeIs (.ref sl) "slice":=⟨os,hos,hcs⟩
  unfold getItem
  try with_reducible refine wpAny_holding ?_
  first | refine wpAny_bind (wpAny_pure ?_) | skip
  refine wpAny_bind (wpAny_sequenceKey ht.typeIs (by decide) ?_)
  refine wpAny_bind (wpAny_callSpecial?_slot (name:=Str.ofString "__getitem__") ht.typeIs PyProof.Rows.slot_tuple_getitem
    (wpAny_call_entry PyProof.Rows.slot_tuple_getitem ht.typeIs PyProof.Rows.entry_tuple_getitem ?_ (PyProof.Rows.args_tuple_getitem _ _)))
  show wpAny _ _ (Builtin.Tuple.tupleItemsOf (.ref t) >>= _) _ _ s
  refine wpAny_bind (PyProof.Rows.tupleItemsOf_ ht ?_)
  refine wpAny_bind (wpAny_typeOf hTs ?_)
  rw [if_pos (by decide)]
  refine wpAny_bind (HT.sliceApplied_gen hs pl pu ?_)
  have hno:(((HT.sIx items.size 0 lo:Nat):Int) == 0 && (1:Int) == 1 && (HT.sIx items.size items.size hi - HT.sIx items.size 0 lo) == items.size)=true:=by
    rw [hw.1,hw.2]
    simp
  show wpAny _ _ (if (((HT.sIx items.size 0 lo:Nat):Int) == 0 && (1:Int) == 1 && (HT.sIx items.size items.size hi - HT.sIx items.size 0 lo) == items.size)=true then _ else _) _ _ s
  rw [if_pos hno]
  refine wpAny_bind (m:=Builtin.Tuple.tupleIsExact _) (wpAny_bind (wpAny_typeOf ht.typeIs (wpAny_pure ?_)))
  rw [if_pos (by decide)]
  exact wpAny_bind (wpAny_rule (wpAny_pure ⟨_,rfl,wpAny_pure h⟩))
def rSlTw (K:PySem.W.Frag):V→Option Int→Option Int→Hp→VK→Prop:=fun x lo hi H Q=>∃ a xs,x=.ref a∧H a=some (.tup xs)∧∀ (p:Addr) (H':Hp),Same H H'→H' p=some (.tup (cutV xs lo hi))→Q (.ref p) H'
theorem sl_tupW {X:Cx}:SlR X (rSlTw X.K):=by
  intro pins s σ H x v vl vu lo hi sl Q I rx hs pl pu h
  obtain ⟨a,xs,rfl,hx,q⟩:=h
  by_cases hw:HT.sIx xs.length 0 lo=0∧HT.sIx xs.length xs.length hi=xs.length
  · cases rx
    obtain ⟨its,r,ht,hz⟩:=I.tuple (SqT.of hx)
    have hlen:its.toArray.size=xs.length:=by rw [List.size_toArray]; exact r.length.symm
    refine ⟨"tuple",_,PyProof.Rows.slot_tuple_getitem.lookup,ht.typeIs,?_⟩
    refine getItem_tuple_all ht hs pl pu (by rw [hlen]; exact hw) ⟨.ref a,H,I,rfl,q a H (Same.refl H) ?_⟩
    rw [hx]
    unfold cutV
    rw [hw.1,hw.2,List.drop_zero,Nat.sub_zero,List.take_length]
  · exact sl_tup pins s σ H _ v vl vu lo hi sl Q I rx hs pl pu ⟨a,xs,rfl,SqT.of hx,hw,fun p hp=>q p _ (same_new hp _) upd_same⟩
end L2
namespace L2
open PySem PySem.Spec PyProof.Rows
def rNeE:R2:=fun x y H Q=>∃ (l b:Addr) (xs:List V),x=.ref l∧y=.ref b∧H l=some (.lst xs)∧H b=some (.lst [])∧Q (.bl (!xs.isEmpty)) H
theorem op_neE {X:Cx} (hu:X.A.units < cLine):OpR X (compareOp .NotEq) rNeE:=by
  intro pins s σ H x y v u Q I rx ry h
  obtain ⟨l,b,xs,rfl,rfl,hl,hb,q⟩:=h
  cases rx
  cases ry
  obtain ⟨its,r1,p1,_⟩:=I.list (SqL.of (K:=X.K) hl)
  obtain ⟨its2,r2,p2,_⟩:=I.list (SqL.of (K:=X.K) hb)
  cases r2
  cases r1 with
  | nil=>exact SeqAt.RcNeAt.lists (e:=fun _=>true) p1.isList p2.isList rfl hu (fun j h1 _=>absurd h1 (Nat.not_lt_zero j)) X.prog X.w _ _ ⟨.bl false,H,I,rfl,q⟩
  | cons _ _=>exact SeqAt.RcNeAt.lists_lengths p1.isList p2.isList (by simp) hu X.prog X.w _ _ ⟨.bl true,H,I,rfl,q⟩
end L2
namespace DR
open PySem PySem.W
open Sem (wp)
def Raw (g:Heap) (d:Addr) (es:Array DictEntry) (ep:Nat):Prop:=∃ o,g.get? d=some o∧o.ExactDict∧o.data=.dict es ep
section
variable {prog:Program} {w:World} {A:Around} {E:Value→Shared→Prop} {s:Shared} {it dd:Addr} {es:Array DictEntry} {i ep:Nat}
theorem Raw.typeIs (r:Raw s.heap dd es ep):s.TypeIs (.ref dd) "dict":=by
  obtain ⟨o,eo,ec,ed⟩:=r
  exact ⟨o,eo,ec.1⟩
theorem Raw.at {g g':Heap} (r:Raw g dd es ep) (k:∀ o,g.get? dd=some o→g'.get? dd=some o):Raw g' dd es ep:=by
  obtain ⟨o,eo,x⟩:=r
  exact ⟨o,k o eo,x⟩
end
end DR
namespace L2
open PySem PySem.Spec PyProof.Rows
end L2
namespace SX
open PySem PySem.Spec PyProof.Rows
def have_ {K:Type} [DecidableEq K] (val:Nat→K) (i:Nat) (k:K):Bool:=((List.range i).map val).any fun y=>decide (y=k)
theorem have_succ {K:Type} [DecidableEq K] (val:Nat→K) (i:Nat) (k:K):have_ val (i+1) k=(have_ val i k || decide (k=val i)):=by
  unfold have_
  rw [List.range_succ,List.map_append,List.any_append]
  congr 1
  simp [eq_comm]
def many {K:Type} [DecidableEq K] (val:Nat→K):Nat→Nat
  | 0=>0
  | i+1=>if have_ val i (val i)=true then many val i else many val i+1
theorem many_le {K:Type} [DecidableEq K] (val:Nat→K):∀ i,many val i≤i
  | 0=>Nat.le_refl _
  | i+1=>by
    have:=many_le val i
    unfold many
    split <;> omega
section
variable {prog:Program} {w:World} {A:Around} {R:Result→Shared→Prop} {I:Addr} {fp wr:List Addr} {G:Array GenState→Array GenState→Prop} {n:Nat} {P:Nat→Value→Prop} {St:Nat→Shared→Prop} {K:Type} [DecidableEq K] {knd:KeyKind prog w K}
theorem fill (W:WalksS prog w A.in1 I fp wr G n P St) (S:Addr) (nf:S ∉ fp) (val:Nat→K) (hv:∀ i v,P i v→knd.is (val i) v=true∧v.scannable=true) (room:n+1 < scanBound) :
    ∀ (k i:Nat) (s:Shared),n - i=k→i≤n→St i s→s.heap.SetOf knd S (have_ val i) (many val i)→(∀ s',Moved (S :: wr) G s s'→s'.heap.SetOf knd S (have_ val n) (many val n)→R (.ok (.ret .none)) s') →
      codeAny (model prog w) A (.builtin "set.update.loop" ⟨[.ref S,.ref I],[]⟩) R s:=by
  have nw:S ∉ wr:=fun z=>nf (W.sub _ z)
  have sub:∀ b∈wr,b∈S :: wr:=fun b z=>List.mem_cons_of_mem _ z
  intro k
  induction k with
  | zero =>
    intro i s ek le st hS q
    have e:i=n:=by omega
    subst e
    refine codeAny_builtin F.entry_set_update_loop ?_
    rw [Around.under_plainId F.plain_set_update_loop _]
    show wpAny _ A.in1 (pyNext (.ref I) >>= _) _ _ _
    refine wpAny_bind (W.done s _ _ st fun s' mv=>?_)
    show wpAny _ A.in1 (ret Value.none) _ _ _
    refine wpAny_pure (q s' (mv.mono sub) ?_)
    obtain ⟨o,es,ep,t,eo,rest⟩:=hS
    exact ⟨o,es,ep,t,mv.heap S _ nw eo,rest⟩
  | succ k ih =>
    intro i s ek le st hS q
    have lt:i < n:=by omega
    refine codeAny_builtin F.entry_set_update_loop ?_
    rw [Around.under_plainId F.plain_set_update_loop _]
    show wpAny _ A.in1 (pyNext (.ref I) >>= _) _ _ _
    refine wpAny_bind (W.item i s _ _ lt st fun v s' hP st' mv=>?_)
    obtain ⟨hk,hsc⟩:=hv i v hP
    have hS':s'.heap.SetOf knd S (have_ val i) (many val i):=by
      obtain ⟨o,es,ep,tb,eo,rest⟩:=hS
      exact ⟨o,es,ep,tb,mv.heap S _ nw eo,rest⟩
    show wpAny _ A.in1 (holding [v] (setAdd S v) >>= _) _ _ _
    refine wpAny_bind (wpAny_holding ?_)
    unfold setAdd
    refine wpAny_holding (wpAny_bind (knd.pyHash hk ?_))
    refine wpAny_setAddHashed_of (knd:=knd) (s:={ s' with toks:=s'.toks+1 }) hk hsc hS' (Nat.lt_of_le_of_lt (Nat.succ_le_succ (many_le val i)) (by omega)) fun g sb hS2=>?_
    have hSi:g.SetOf knd S (have_ val (i+1)) (many val (i+1)):=by
      have e:(fun k'=>have_ val i k' || decide (k'=val i))=have_ val (i+1):=funext fun k'=>(have_succ val i k').symm
      rw [← e]
      exact hS2
    refine wpAny_pure ⟨plainId_quiet F.plain_set_update_loop _,ih (i+1) _ (by omega) lt (W.frame _ s' _ _ st' (Nat.le_succ _) fun b hb o e=>?_) hSi fun s'' mv2 hS''=>?_⟩
    · rw [sb.2 b fun z=>nf (z ▸ hb)]
      exact e
    · refine q s'' (Moved.trans W.gtrans ((mv.mono sub).then_heap (Nat.le_succ _) fun b o hb e=>?_) mv2) hS''
      rw [sb.2 b fun z=>hb (by rw [z]; exact List.mem_cons_self)]
      exact e
end
end SX
namespace L2
open PySem PySem.Spec PyProof.Rows
end L2
namespace L2
open PySem PySem.Spec PyProof.Rows
theorem den_rel {X:Cx} {pins:List (Addr × Obj)} {σ:St} {H:Hp} {s:Shared} (I:Inv X pins σ H s):∀ (n:Nat) (d:D) (A:Around) (x y:V) (v u:Value),Shal n d→Den H x d→Den H y d→RelV x v→RelV y u→A.units+n < cLine→SeqAt.EqAt A s v u true
  | _,.non,A,x,y,v,u,hs,hx,hy,rx,ry,hu=>absurd rfl hs.ne
  | _,.bl b,A,x,y,v,u,hs,hx,hy,rx,ry,hu=>by
    have e1:x=.bl b:=hx
    have e2:y=.bl b:=hy
    subst e1
    subst e2
    cases rx
    cases ry
    exact SeqAt.EqAt.same _
  | _,.int i,A,x,y,v,u,hs,hx,hy,rx,ry,hu=>by
    have e1:x=.int i:=hx
    have e2:y=.int i:=hy
    subst e1
    subst e2
    obtain ⟨t,rfl⟩:=rx
    obtain ⟨t',rfl⟩:=ry
    have:=SeqAt.EqAt.int_int (A:=A) (s:=s) i t i t'
    simpa using this
  | _,.str z,A,x,y,v,u,hs,hx,hy,rx,ry,hu=>by
    have e1:x=.str z:=hx
    have e2:y=.str z:=hy
    subst e1
    subst e2
    obtain ⟨t,rfl⟩:=rx
    obtain ⟨t',rfl⟩:=ry
    have:=SeqAt.EqAt.str_str (A:=A) (s:=s) z t z t'
    simpa using this
  | 0,.tup ds,A,x,y,v,u,hs,hx,hy,rx,ry,hu=>absurd rfl (hs.2 ds)
  | n+1,.tup ds,A,x,y,v,u,hs,hx,hy,rx,ry,hu=>by
    obtain ⟨a,vs,rfl,ha,hda⟩:=den_tup hx
    obtain ⟨b,us,rfl,hb,hdb⟩:=den_tup hy
    cases rx
    cases ry
    by_cases hab:a=b
    · subst hab
      exact SeqAt.EqAt.same _
    · obtain ⟨its,r1,p1,_⟩:=I.tuple (SqT.of (K:=X.K) ha)
      obtain ⟨its2,r2,p2,_⟩:=I.tuple (SqT.of (K:=X.K) hb)
      have l1:=hda.len
      have l2:=hdb.len
      have m1:=r1.length
      have m2:=r2.length
      have key:=SeqAt.EqAt.of_refs hab (SeqAt.RcAt.tuples (A:=A) (s:=s) (e:=fun _=>true) p1 p2 (by omega) fun j h1 h2=>?_)
      · have e:((List.range (min its.toArray.size its2.toArray.size)).all (fun _=>true) && its.toArray.size == its2.toArray.size)=true:=by
          simp
          omega
        rw [e] at key
        exact key
      · have hj1:j < vs.length:=by simpa [m1] using h1
        have hj2:j < us.length:=by simpa [m2] using h2
        obtain ⟨d1,g1,b1⟩:=hda.at_ (List.getElem?_eq_getElem hj1)
        obtain ⟨d2,g2,b2⟩:=hdb.at_ (List.getElem?_eq_getElem hj2)
        rw [g1] at g2
        cases g2
        obtain ⟨w1,hw1,rw1⟩:=r1.get (List.getElem?_eq_getElem hj1)
        obtain ⟨w2,hw2,rw2⟩:=r2.get (List.getElem?_eq_getElem hj2)
        have q1:its.toArray[j]=w1:=by
          have:=(List.getElem?_eq_some_iff.mp hw1).2
          simpa using this
        have q2:its2.toArray[j]=w2:=by
          have:=(List.getElem?_eq_some_iff.mp hw2).2
          simpa using this
        rw [q1,q2]
        exact den_rel I n d1 A.in1 _ _ _ _ ((hs.2 ds rfl).2 d1 (List.mem_of_getElem? g1)) b1 b2 rw1 rw2 (by first | (simp only [Around.in1]; omega) | omega)
def rNeD:R2:=fun x y H Q=>∃ (ds:List D) (n:Nat),Den H x (.tup ds)∧Den H y (.tup ds)∧Shal n (.tup ds)∧n≤60∧Q (.bl false) H
theorem op_neD {X:Cx} (hu:X.A.units+64 < cLine):OpR X (compareOp .NotEq) rNeD:=by
  intro pins s σ H x y v u Q I rx ry h
  obtain ⟨ds,n,hx,hy,hs,hn,q⟩:=h
  obtain ⟨a,vs,rfl,ha,hda⟩:=den_tup hx
  obtain ⟨b,us,rfl,hb,hdb⟩:=den_tup hy
  cases rx
  cases ry
  cases n with
  | zero=>exact absurd rfl (hs.2 ds)
  | succ n =>
  obtain ⟨its,r1,p1,_⟩:=I.tuple (SqT.of (K:=X.K) ha)
  obtain ⟨its2,r2,p2,_⟩:=I.tuple (SqT.of (K:=X.K) hb)
  have l1:=hda.len
  have l2:=hdb.len
  have m1:=r1.length
  have m2:=r2.length
  have key:=SeqAt.RcNeAt.tuples (A:=X.A) (s:=s) (e:=fun _=>true) p1 p2 (by omega) fun j h1 h2=>?_
  · have e:(!((List.range (min its.toArray.size its2.toArray.size)).all (fun _=>true) && its.toArray.size == its2.toArray.size))=false:=by
      simp
      omega
    rw [e] at key
    exact key X.prog X.w _ _ ⟨.bl false,H,I,rfl,q⟩
  · have hj1:j < vs.length:=by simpa [m1] using h1
    have hj2:j < us.length:=by simpa [m2] using h2
    obtain ⟨d1,g1,b1⟩:=hda.at_ (List.getElem?_eq_getElem hj1)
    obtain ⟨d2,g2,b2⟩:=hdb.at_ (List.getElem?_eq_getElem hj2)
    rw [g1] at g2
    cases g2
    obtain ⟨w1,hw1,rw1⟩:=r1.get (List.getElem?_eq_getElem hj1)
    obtain ⟨w2,hw2,rw2⟩:=r2.get (List.getElem?_eq_getElem hj2)
    have q1:its.toArray[j]=w1:=by
      have:=(List.getElem?_eq_some_iff.mp hw1).2
      simpa using this
    have q2:its2.toArray[j]=w2:=by
      have:=(List.getElem?_eq_some_iff.mp hw2).2
      simpa using this
    rw [q1,q2]
    exact den_rel I n d1 X.A.in1 _ _ _ _ ((hs.2 ds rfl).2 d1 (List.mem_of_getElem? g1)) b1 b2 rw1 rw2 (by first | (simp only [Around.in1]; omega) | omega)
end L2
namespace ZZ
open PySem
open Sem (wp)
section
variable {prog:Program} {w:World} {A:Around} {E:Value→Shared→Prop} {s:Shared}
end
end ZZ
namespace L2
open PySem PySem.Spec PyProof.Rows
end L2
namespace L2
open PySem PySem.Spec PyProof.Rows
end L2
namespace L2
open PySem PySem.Spec PyProof.Rows
theorem ps_setC0 {X:Cx} {ix:Nat} {xn:Str} {pos' spos:Pos} {elt tg iter:Expr} {ifs:List Expr} {scope:Scope} {pos:Pos} {wi:TI} {g:TG} {tc:TT} {te:TE} (hN:X.N.Nodup) (hix:X.N[ix]?=some xn) (hxl:X.env.scope.names.lookup xn=some .local) (N:List Str) (lift:St→St) (hc:X.calm=true) (hi:PI X tg iter wi)
    (hkind:scope.kind=.function) (hcell:∀ y∈scope.names,y.2≠.cell) (hfree:∀ y∈scope.names,y.2=.free→X.env.kindOf y.1=some .cell∨X.env.kindOf y.1=some .free)
    (hnames:∀ y∈scope.names,y.2=.local→scope.names.lookup y.1=some .local)
    (hlen:∀ σ:St,σ.length=X.N.length→(lift σ).length=N.length)
    (hσ:∀ (σ:St) (i:Nat) (x:Str) (v:V),σ.length=X.N.length→N[i]?=some x→(lift σ)[i]?=some (some v)→scope.names.lookup x=some .free∧∃ j:Nat,X.N[j]?=some x∧σ[j]?=some (some v))
    (hg:∀ cl C s H ex pn E,PG (blockCx X scope N cl C s H ex pn E) tg g) (ht:∀ cl C s H ex pn E,PIfs (blockCx X scope N cl C s H ex pn E) ifs tc) (he:∀ cl C s H ex pn E,PE (blockCx X scope N cl C s H ex pn E) elt te)
    (hs:∀ x,foldedSetIterable iter X.env x=pure x) (hsw:swapsWith (.ListComp elt [⟨tg,iter,ifs,0⟩] scope pos) (some (.Name xn pos')) spos.line X.env=pure true) :
    PS X (.Assign [.Name xn pos'] (.ListComp elt [⟨tg,iter,ifs,0⟩] scope pos) spos) (tAsg (tComp wi g tc te lift) (gName ix)):=by
  intro pins s σ H D I h
  rw [exec_Assign_Name_used _ _ _ _ hsw]
  refine wpAny_bind (wpAny_standAt (wpAny_bind ?_))
  suffices key:wpAny (model X.prog X.w) X.A (comprehension (.ListComp elt [⟨tg,iter,ifs,0⟩] scope pos) scope X.env (firstIterPos [⟨tg,iter,ifs,0⟩] pos) (newList []) (firstAsync [⟨tg,iter,ifs,0⟩]) (firstIter [⟨tg,iter,ifs,0⟩] X.env) (some (assign (.Name xn pos') X.env))) (fun _ s''=>∃ σ' H',Inv X pins σ' H' s''∧D.nx σ' H') X.xe s by
    show wpAny _ _ (comprehension _ _ _ _ _ _ _ _ >>= fun _=>pure ()) _ _ _
    exact wpAny_bind (thn key fun _ s' q=>wpAny_pure (wpAny_pure q))
  obtain ⟨cl,hclos,hcl1,hcl2⟩:=closure_of (scope:=scope) (env:=X.env) fun y hy hf=>I.ok.has y.1 (hfree y hy hf)
  refine wpAny_comprehension_free (use:=some (assign (.Name xn pos') X.env)) rfl hs hclos hkind hnames (thn (hi pins s σ H _ I h) fun v s1 h1=>thn h1 fun itv s2 h2=>?_)
  obtain ⟨it,fp,tn,J,H2,e,I2,T,st2,f2,q⟩:=h2
  subst e
  refine wpAny_newObj_type (wpAny_newFunctionEnv hcell (by intro y hy; simp at hy) (fun h₁ hns₁ hsb₁=>?_) hkind)
  have I3:Inv X pins σ (upd H2 s2.heap.objs.size (.lst [])) { s2 with heap:=s2.heap.push { cls:=.type "list",data:=.seq ([]:List Value).toArray } }:=I2.lnew (its:=[]) (t':=s2.toks) .nil (Nat.zero_le _)
  have fr:H2 s2.heap.objs.size=none:=I2.fresh
  have hold:∀ b o,(s2.heap.push { cls:=.type "list",data:=.seq ([]:List Value).toArray }).get? b=some o→h₁.get? b=some o:=fun b o e=>hsb₁.extBut b o (Nat.ne_of_lt (Heap.lt_size e)) (Heap.get?_push_of_some _ e)
  have f3:∀ b∈fp,FpOk X pins (upd H2 s2.heap.objs.size (.lst [])) b:=fun b hb=>by
    obtain ⟨o,eo,_⟩:=T.obj 0 _ st2 b hb
    exact ⟨by rw [upd_ne (Nat.ne_of_lt (Heap.lt_size eo))]; exact (f2 b hb).1,(f2 b hb).2⟩
  have fo:∀ b∈fp,∃ o,(s2.heap.push { cls:=.type "list",data:=.seq ([]:List Value).toArray }).get? b=some o:=fun b hb=>by
    obtain ⟨o,eo,_⟩:=T.obj 0 _ st2 b hb
    exact ⟨o,Heap.get?_push_of_some _ eo⟩
  generalize hP:s2.heap.push { cls:=.type "list",data:=.seq ([]:List Value).toArray }=P at *
  obtain ⟨W,⟨m0,w0⟩,turn⟩:=q s2.heap.objs.size fr
  generalize hL:s2.heap.objs.size=L at *
  let R:Result→Shared→Prop:=compPost (model X.prog X.w) X.A X.xe (some (assign (.Name xn pos') X.env)) (fun _ s''=>∃ σ' H',Inv X pins σ' H' s''∧D.nx σ' H') (.ref L) P.objs.size
  let Y:Cx:=blockCx X scope N cl P.objs.size { s2 with heap:=P } (upd H2 L (.lst [])) fp (X.pn++pins) (notedBy (model X.prog X.w) X.A (compEnvC scope cl P.objs.size X.env) fun e s'=>R (.error e) s')
  have IY:Inv Y [] (lift σ) (upd H2 L (.lst [])) { s2 with heap:=h₁,toks:=s2.toks+([]:List (Str × Value)).length } :=
    block_ok (s:={ s2 with heap:=P }) I3 hkind hcell hfree hcl1 hcl2 f3 fo (hlen σ I.len) (fun i x v=>hσ σ i x v I.len) hns₁ hold
  have stY:tn 0 h₁:=T.keep _ _ _ st2 fun b hb o e=>hold b o (by rw [← hP]; exact Heap.get?_push_of_some _ e)
  have fC:∀ b∈fp,b≠P.objs.size∧(b∈fp):=fun b hb=>by
    obtain ⟨o,eo⟩:=fo b hb
    exact ⟨Nat.ne_of_lt (Heap.lt_size eo),hb⟩
  have fpY:∀ {H':Hp},(∀ b∈fp,H' b=none)→∀ b∈fp,FpOk Y [] H' b:=fun {H'} hn b hb=>by
    refine ⟨hn b hb,(fC b hb).1,fun z=>?_,.inl hb,fun x c ex=>(f3 b hb).2.2.2.2.1 x c (hcl2 _ _ ex),fun p hp=>?_⟩
    · rcases List.mem_cons.mp (I3.stkSub b z) with y | y
      · exact (f3 b hb).2.1 y
      · exact (f3 b hb).2.2.1 y
    · have hp':p∈(X.pn++pins)++[]:=hp
      rw [List.append_nil] at hp'
      exact (f3 b hb).2.2.2.2.2 p hp'
  have loop:∀ s4:Shared,s4={ s2 with heap:=h₁,toks:=s2.toks+([]:List (Str × Value)).length } →
      codeAny (model X.prog X.w) X.A (.compLoop (.ListComp elt [⟨tg,iter,ifs,0⟩] scope pos) 0 (.ref it) (.ref L) (compEnvC scope cl P.objs.size X.env)) R s4:=by
    rintro s4 rfl
    refine codeAny_compLoop_any (fun n s'=>∃ i σ' H',Inv Y [] σ' H' s'∧tn i s'.heap∧(∀ b∈fp,H' b=none)∧W i n σ' H') ?_ m0 ⟨0,_,_,IY,stY,fun b hb=>(f3 b hb).1,w0⟩
    rintro n s5 ⟨i,σ5,H5,I5,st5,fr5,w5⟩
    rcases turn i n σ5 H5 w5 with ⟨stop,qn⟩ | ⟨go,Nx,hNx,step⟩
    · refine thn (T.done Y rfl rfl rfl hc i [] s5 σ5 H5 Y.xe I5 (fpY fr5) st5 stop) fun r s6 ⟨hr,I6⟩=>?_
      subst hr
      show R (.ok .next) s6
      obtain ⟨m6,hn6,_⟩:=id I6.loc
      have IX:Inv X pins σ H5 s6:=I3.call' (s':=s6) (ch:=fp) I6.os I6.base I6.hok I6.bare fun b hb=>⟨(f3 b hb).2.2.2.1,(f3 b hb).2.1,(f3 b hb).2.2.2.2.1,(f3 b hb).2.2.2.2.2⟩
      have nC:∀ x c,X.env.cells.lookup x=some c→c≠P.objs.size:=fun x c ec z=>by
        obtain ⟨v0,qv⟩:=I3.cell x c ec
        exact absurd qv.lt (by rw [z]; exact Nat.lt_irrefl _)
      have nP:∀ p∈X.pn++pins,p.1≠P.objs.size:=fun p hp z=>by
        have z0:=Heap.lt_size (I3.pin p hp).1
        exact absurd z0 (by rw [z]; exact Nat.lt_irrefl _)
      show wpAny _ _ (assign (.Name xn pos') X.env (.ref L)) _ _ _
      refine wpAny_assign_Name (store_ok2 IX hN hix (.inl hxl) (v:=.ref L) rfl (fun s7 I7 hsb=>?_) (.inr hxl))
      obtain ⟨a7,sb7,ha7⟩:=hsb
      have na7:P.objs.size≠a7:=by
        rcases ha7 with z | z
        · rw [z]
          exact Nat.ne_of_gt I3.lt
        · exact (nC _ _ z).symm
      refine ⟨m6,hn6.at' fun o e=>(sb7.2 _ na7).trans e,fun h' sb=>⟨_,H5,I7.turned (t':=s7.toks) (it:=P.objs.size) (fun b o hb e=>(sb.2 b hb).trans e) I6.free (Nat.ne_of_gt I3.lt) (.inr I3.sz) nC nP,qn⟩⟩
    · refine thn (T.item Y rfl rfl rfl hc i [] s5 σ5 H5 Y.xe I5 (fpY fr5) st5 go) fun r s6 ⟨u,hr,h6⟩=>?_
      subst hr
      refine thn h6 fun _ s7 ⟨x,H7,I7,r7,y7,st7,fr7⟩=>?_
      have I7':=I7.pinned (fpY fr7) (T.obj _ _ st7)
      refine thn (hg _ _ _ _ _ _ _ _ s7 σ5 H7 x u _ I7' r7 (step x H7 y7)) fun _ s8 ⟨σ8,H8,I8,q8⟩=>?_
      refine thn (ht _ _ _ _ _ _ _ _ s8 σ8 H8 _ I8 q8) fun ok s9 ⟨H9,I9,q9⟩=>?_
      have again:∀ {sx:Shared} {Hx:Hp},Inv Y ([]++pinsAt fp s7.heap) σ8 Hx sx→Nx σ8 Hx→∃ m,m < n∧∃ i σ' H',Inv Y [] σ' H' sx∧tn i sx.heap∧(∀ b∈fp,H' b=none)∧W i m σ' H':=fun {sx Hx} Ix nx=>by
        obtain ⟨m',hm,wx⟩:=hNx σ8 Hx nx
        refine ⟨m',hm,i+1,σ8,Hx,Ix.unpinned,T.keep _ _ _ st7 fun b hb o e=>(Ix.pin (b,o) (List.mem_append_right _ (List.mem_append_right _ (mem_pinsAt hb e)))).1,fun b hb=>?_,wx⟩
        obtain ⟨o,e,d⟩:=T.obj _ _ st7 b hb
        exact (Ix.pin (b,o) (List.mem_append_right _ (List.mem_append_right _ (mem_pinsAt hb e)))).2.1
      cases ok with
      | false =>
        rw [if_neg Bool.false_ne_true] at q9 ⊢
        exact again I9 q9
      | true =>
        rw [if_pos rfl] at q9 ⊢
        refine thn (he _ _ _ _ _ _ _ _ s9 σ8 H9 _ I9 q9) fun y s10 ⟨v10,H10,I10,r10,ys,hys,hz,q10⟩=>?_
        refine thn (mt_append (X:=Y) _ s10 σ8 H10 (.ref L) [v10] (.ref L) [y] (fun _ H'=>Nx σ8 H') I10 rfl (.cons r10 .nil) ⟨L,ys,v10,rfl,rfl,hys,hz,q10⟩) fun _ s11 ⟨_,H11,I11,_,q11⟩=>?_
        exact again I11 q11
  exact codeAny_compStart_list (loop _ rfl) (T.self X.A 0 _ _ _ stY (loop _ rfl))
theorem ps_setC {X:Cx} {ix:Nat} {xn:Str} {pos' spos:Pos} {elt tg iter:Expr} {ifs:List Expr} {scope:Scope} {pos:Pos} {wi:TI} {g:TG} {tc:TT} {te:TE} (hN:X.N.Nodup) (hix:X.N[ix]?=some xn) (hxl:X.env.scope.names.lookup xn=some .local) (XN:List Str) (sc:Scope) (N:List Str) (js:List (Option Nat)) (hXN:X.N=XN) (hsc:X.env.scope=sc) (hc:X.calm=true) (hi:PI X tg iter wi)
    (hkind:scope.kind=.function) (hchk:chkLift N js XN scope.names=true) (hcell:∀ y∈scope.names,y.2≠.cell) (hfree:∀ y∈scope.names,y.2=.free→sc.names.lookup y.1=some .cell∨sc.names.lookup y.1=some .free)
    (hnames:∀ y∈scope.names,y.2=.local→scope.names.lookup y.1=some .local)
    (hg:∀ cl C s H ex pn E,PG (blockCx X scope N cl C s H ex pn E) tg g) (ht:∀ cl C s H ex pn E,PIfs (blockCx X scope N cl C s H ex pn E) ifs tc) (he:∀ cl C s H ex pn E,PE (blockCx X scope N cl C s H ex pn E) elt te)
    (hs:∀ x,foldedSetIterable iter X.env x=pure x:=by intro _; rfl) (hsw:swapsWith (.ListComp elt [⟨tg,iter,ifs,0⟩] scope pos) (some (.Name xn pos')) spos.line X.env=pure true:=by rfl) :
    PS X (.Assign [.Name xn pos'] (.ListComp elt [⟨tg,iter,ifs,0⟩] scope pos) spos) (tAsg (tComp wi g tc te (liftBy js)) (gName ix)):=by
  subst hXN
  subst hsc
  exact ps_setC0 hN hix hxl N (liftBy js) hc hi hkind hcell hfree hnames (fun σ _=>chk_len hchk σ) (fun σ i x v _ h1 h2=>chk_at hchk σ i x v h1 h2) hg ht he hs hsw
end L2
set_option maxHeartbeats 1000000
namespace SO
open PySem PySem.W PyProof.Rows
variable {O:KeyOrd} {key:Nat→O.α} {N:Nat}
def KN (key:Nat→O.α) (p:Array Nat) (i:Nat):O.α:=key (p.getD i 0)
def SortedN (key:Nat→O.α) (p:Array Nat) (k:Nat):Prop:=∀ i j,i≤j→j < k→O.kle (KN key p i) (KN key p j)
def FallN (key:Nat→O.α) (p:Array Nat) (k:Nat):Prop:=∀ i j,i≤j→j < k→O.kle (KN key p j) (KN key p i)
def InN (N:Nat) (p:Array Nat):Prop:=p.toList.Perm (List.range N)
theorem InN.size {p:Array Nat} (h:InN N p):p.size=N:=by simpa using h.length_eq
theorem InN.lt {p:Array Nat} (h:InN N p) {i:Nat} (hi:i < N):p.getD i 0 < N:=by
  have hs:i < p.size:=by rw [h.size]; exact hi
  have e:p.getD i 0=p[i]:=by simp [Array.getD,hs]
  rw [e]
  exact List.mem_range.mp (h.mem_iff.mp (by simp))
theorem InN.of {p q:Array Nat} (h:InN N p) (g:q.Perm p):InN N q:=(Array.perm_iff_toList_perm.mp g).trans h
theorem KN_congr {p q:Array Nat} {i j:Nat} (h:p[i]?=q[j]?):KN key p i=KN key q j:=by
  unfold KN
  rw [Array.getD_eq_getD_getElem?,Array.getD_eq_getD_getElem?,h]
theorem KN_bubble {p:Array Nat} {src d:Nat} (hs:src < p.size) (hd:d≤src) (k:Nat) :
    KN key (bubble p src d) k=if k=src - d then KN key p src else if src - d < k∧k≤src then KN key p (k - 1) else KN key p k:=by
  have e:=getElem?_bubble hs d hd k
  by_cases h1:k=src - d
  · rw [if_pos h1] at e ⊢; exact KN_congr e
  · rw [if_neg h1] at e ⊢
    by_cases h2:src - d < k∧k≤src
    · rw [if_pos h2] at e ⊢; exact KN_congr e
    · rw [if_neg h2] at e ⊢; exact KN_congr e
theorem KN_rev {p:Array Nat} {i j:Nat} (hj:j≤p.size) (k:Nat):KN key (kas_rev p i j) k=if i≤k∧k < j then KN key p (i+j - 1 - k) else KN key p k:=by
  have e:=getElem?_mirror_all (i:=i) hj k
  unfold kas_rev
  by_cases h1:i≤k∧k < j
  · rw [if_pos h1] at e ⊢; exact KN_congr e
  · rw [if_neg h1] at e ⊢; exact KN_congr e
theorem KN_rev_equal {p:Array Nat} {i j:Nat} (hj:j≤p.size) (heq:∀ k,i≤k→k < j→KN key p k=KN key p (j - 1)) (k:Nat):KN key (kas_rev p i j) k=KN key p k:=by
  rw [KN_rev hj]
  split
  · rw [heq _ (by omega) (by omega),heq k (by omega) (by omega)]
  · rfl
theorem InN.rev {p:Array Nat} (h:InN N p) (i j:Nat):InN N (kas_rev p i j):=h.of (mirror_perm _ _ _ _)
section
variable {cmp:Nat→Nat→(Bool→Shared→Prop)→Shared→Prop} {s:Shared}
def Cmp (key:Nat→O.α) (N:Nat) (cmp:Nat→Nat→(Bool→Shared→Prop)→Shared→Prop) (s:Shared):Prop :=
  ∀ (i j:Nat) (C:Bool→Shared→Prop),i < N→j < N→C (O.blt (key i) (key j)) s→cmp i j C s
theorem ask {α:Type} {p:Array Nat} {i j:Nat} {k:Bool→KasT α} {G:α→Shared→Prop} (hc:Cmp key N cmp s) (hp:InN N p) (hi:i < N) (hj:j < N)
    (h:(k (O.blt (KN key p i) (KN key p j))).kasWp cmp G s):(KasT.ask (p.getD i 0) (p.getD j 0) k).kasWp cmp G s :=
  hc _ _ _ (hp.lt hi) (hp.lt hj) h
theorem asc {p:Array Nat} {G:Nat→Shared→Prop} {nrem:Nat} (hc:Cmp key N cmp s) (hp:InN N p) (hN:nrem≤N):∀ (f n:Nat),1≤n→n+f=nrem→SortedN key p n →
    (∀ m,n≤m→m≤nrem→SortedN key p m→(m=nrem∨O.klt (KN key p m) (KN key p (m - 1)))→G m s)→(kas_asc p f n).kasWp cmp G s
  | 0,n,h1,hf,hs,h=>h n (Nat.le_refl _) (by omega) hs (.inl (by omega))
  | f+1,n,h1,hf,hs,h=>by
    unfold kas_asc
    refine ask hc hp (by omega) (by omega) ?_
    cases hl:O.blt (KN key p n) (KN key p (n - 1)) with
    | true =>
      rw [if_pos rfl]
      exact h n (Nat.le_refl _) (by omega) hs (.inr hl)
    | false =>
      rw [if_neg (by simp)]
      refine asc hc hp hN f (n+1) (by omega) (by omega) (fun i j hij hj=>?_) fun m a b c d=>h m (by omega) b c d
      by_cases hjx:j < n
      · exact hs i j hij hjx
      · have hj':j=n:=by omega
        subst hj'
        by_cases hi':i=j
        · subst hi'; exact KeyOrd.kle_refl _
        · exact KeyOrd.kle_trans (hs i (j - 1) (by omega) (by omega)) hl
theorem desc {G:Array Nat × Nat × Nat→Shared→Prop} {nrem:Nat} (hc:Cmp key N cmp s) (hN:nrem≤N):∀ (f:Nat) (p:Array Nat) (n q:Nat),InN N p→1≤n→n+f=nrem→FallN key p n→q+1≤n →
    (∀ i,n - (q+1)≤i→i < n→KN key p i=KN key p (n - 1)) →
    (∀ p m q,InN N p→n≤m→m≤nrem→FallN key p m→q+1≤m→(∀ i,m - (q+1)≤i→i < m→KN key p i=KN key p (m - 1))→G (p,m,q) s)→(kas_desc f p n q).kasWp cmp G s
  | 0,p,n,q,hp,h1,hf,hs,hq,he,h=>h p n q hp (Nat.le_refl _) (by omega) hs hq he
  | f+1,p,n,q,hp,h1,hf,hs,hq,he,h=>by
    unfold kas_desc
    have hsz:n≤p.size:=by rw [hp.size]; omega
    refine ask hc hp (by omega) (by omega) ?_
    cases hl:O.blt (KN key p n) (KN key p (n - 1)) with
    | true =>
      rw [if_pos rfl]
      have step1:∀ xs:Array Nat,(∀ k,KN key xs k=KN key p k)→FallN key xs (n+1):=by
        intro xs hk i j hij hj
        rw [hk,hk]
        by_cases hjx:j < n
        · exact hs i j hij hjx
        · have hj':j=n:=by omega
          subst hj'
          by_cases hi':i=j
          · subst hi'; exact KeyOrd.kle_refl _
          · exact KeyOrd.kle_trans (KeyOrd.kle_of_klt hl) (hs i (j - 1) (by omega) (by omega))
      by_cases hneq:q > 0
      · rw [if_pos hneq]
        exact desc hc hN f _ (n+1) 0 (hp.rev _ _) (by omega) (by omega) (step1 _ (KN_rev_equal hsz he)) (by omega) (fun i a b=>by congr 1; omega) fun p m q x a b c d e=>h p m q x (by omega) b c d e
      · rw [if_neg hneq]
        exact desc hc hN f _ (n+1) 0 hp (by omega) (by omega) (step1 _ fun _=>rfl) (by omega) (fun i a b=>by congr 1; omega) fun p m q x a b c d e=>h p m q x (by omega) b c d e
    | false =>
      rw [if_neg (by simp)]
      refine ask hc hp (by omega) (by omega) ?_
      cases hg:O.blt (KN key p (n - 1)) (KN key p n) with
      | true =>
        rw [if_pos rfl]
        exact h p n q hp (Nat.le_refl _) (by omega) hs hq he
      | false =>
        rw [if_neg (by simp)]
        have heqx:KN key p n=KN key p (n - 1):=KeyOrd.kle_antisymm hg hl
        refine desc hc hN f p (n+1) (q+1) hp (by omega) (by omega) (fun i j hij hj=>?_) (by omega) (fun i a b=>?_) fun p m q x a b c d e=>h p m q x (by omega) b c d e
        · by_cases hjx:j < n
          · exact hs i j hij hjx
          · have hj':j=n:=by omega
            subst hj'
            by_cases hi':i=j
            · subst hi'; exact KeyOrd.kle_refl _
            · rw [heqx]; exact hs i (j - 1) (by omega) (by omega)
        · rw [show n+1 - 1=n by omega]
          by_cases hix:i=n
          · subst hix; rfl
          · rw [heqx]; exact he i (by omega) (by omega)
theorem tail3 {p:Array Nat} {n nrem:Nat} {G:Nat × Array Nat→Shared→Prop} (hc:Cmp key N cmp s) (hp:InN N p) (hN:nrem≤N) (h1:1≤n) (hn:n≤nrem) (hs:FallN key p n)
    (h:∀ m q,InN N q→1≤m→m≤nrem→SortedN key q m→G (m,q) s):(kas_tail3 n nrem p).kasWp cmp G s:=by
  unfold kas_tail3
  rw [KasT.kasWp_bind]
  have hsz:n≤p.size:=by rw [hp.size]; omega
  refine asc (nrem:=nrem) hc (hp.rev _ _) hN _ n h1 (by omega) (fun i j hij hj=>?_) fun m a b c _=>h m _ (hp.rev _ _) (by omega) b c
  rw [KN_rev hsz,KN_rev hsz,if_pos (by omega),if_pos (by omega)]
  exact hs _ _ (by omega) (by omega)
theorem descPart {p:Array Nat} {n nrem:Nat} {G:Nat × Array Nat→Shared→Prop} (hc:Cmp key N cmp s) (hp:InN N p) (hN:nrem≤N) (hn:n+1≤nrem) (hs:FallN key p (n+1))
    (h:∀ m q,InN N q→1≤m→m≤nrem→SortedN key q m→G (m,q) s):(kas_descPart n nrem p).kasWp cmp G s:=by
  unfold kas_descPart
  rw [KasT.kasWp_bind]
  refine desc (nrem:=nrem) hc hN _ p (n+1) 0 hp (by omega) (by omega) hs (by omega) (fun i a b=>by congr 1; omega) fun p' m q hp' hm1 hm2 hf hq he=>?_
  dsimp only
  have hsz:m≤p'.size:=by rw [hp'.size]; omega
  by_cases hneq:q > 0
  · rw [if_pos hneq]
    refine tail3 hc (hp'.rev _ _) hN (by omega) hm2 (fun i j hij hj=>?_) h
    rw [KN_rev_equal hsz he,KN_rev_equal hsz he]
    exact hf i j hij hj
  · rw [if_neg hneq]
    exact tail3 hc hp' hN (by omega) hm2 hf h
theorem count {p:Array Nat} {nrem:Nat} {G:Nat × Array Nat→Shared→Prop} (hc:Cmp key N cmp s) (hp:InN N p) (hN:nrem≤N) (h1:1≤nrem)
    (h:∀ m q,InN N q→1≤m→m≤nrem→SortedN key q m→G (m,q) s):(kas_count nrem p).kasWp cmp G s:=by
  unfold kas_count
  rw [KasT.kasWp_bind]
  refine asc (nrem:=nrem) hc hp hN _ 1 (Nat.le_refl _) (by omega) (fun i j hij hj=>by have:i=j:=(by omega); subst this; exact KeyOrd.kle_refl _) fun n hn1 hn2 hsn hor=>?_
  by_cases hnn:n=nrem
  · rw [if_pos (by simpa using hnn)]
    exact h n p hp hn1 hn2 hsn
  · rw [if_neg (by simpa using hnn)]
    have hlt:O.klt (KN key p n) (KN key p (n - 1)):=hor.resolve_left hnn
    by_cases hgt:n > 1
    · rw [if_pos hgt]
      refine ask hc hp (by omega) (by omega) ?_
      cases hrose:O.blt (KN key p 0) (KN key p (n - 1)) with
      | true =>
        rw [if_pos rfl]
        exact h n p hp hn1 hn2 hsn
      | false =>
        rw [if_neg (by simp)]
        have hsz:n≤p.size:=by rw [hp.size]; omega
        have hall:∀ k,0≤k→k < n→KN key p k=KN key p (n - 1):=by
          intro k _ hk
          have a1:=hsn 0 k (by omega) hk
          have a2:=hsn k (n - 1) (by omega) (by omega)
          exact KeyOrd.kle_antisymm a2 (KeyOrd.kle_trans hrose a1)
        refine descPart hc (hp.rev _ _) hN (by omega) (fun i j hij hj=>?_) h
        rw [KN_rev_equal hsz hall,KN_rev_equal hsz hall]
        by_cases hjn:j < n
        · rw [hall i (by omega) (by omega),hall j (by omega) hjn]; exact KeyOrd.kle_refl _
        · have hj':j=n:=by omega
          subst hj'
          by_cases hi':i=j
          · subst hi'; exact KeyOrd.kle_refl _
          · rw [hall i (by omega) (by omega)]; exact KeyOrd.kle_of_klt hlt
    · rw [if_neg hgt]
      have hn1':n=1:=by omega
      subst hn1'
      refine descPart hc hp hN (by omega) (fun i j hij hj=>?_) h
      by_cases hi':i=j
      · subst hi'; exact KeyOrd.kle_refl _
      · have hi0:i=0:=by omega
        have hj1:j=1:=by omega
        subst hi0; subst hj1
        exact KeyOrd.kle_of_klt hlt
theorem place {p:Array Nat} {k:Nat} {G:Nat→Shared→Prop} (hc:Cmp key N cmp s) (hp:InN N p) (hk:k < N) (hs:SortedN key p k):∀ (f l r:Nat),l≤r→r≤k→r - l≤f →
    (∀ i,i < l→O.kle (KN key p i) (KN key p k))→(∀ i,r≤i→i < k→O.klt (KN key p k) (KN key p i)) →
    (∀ l,l≤k→(∀ i,i < l→O.kle (KN key p i) (KN key p k))→(∀ i,l≤i→i < k→O.klt (KN key p k) (KN key p i))→G l s)→(kas_place p k f l r).kasWp cmp G s
  | 0,l,r,hlr,hrk,hf,hlo,hhi,h=>by
    have e:l=r:=by omega
    subst e
    exact h l hrk hlo hhi
  | f+1,l,r,hlr,hrk,hf,hlo,hhi,h=>by
    unfold kas_place
    by_cases hge:l ≥ r
    · rw [if_pos hge]
      have e:l=r:=by omega
      subst e
      exact h l hrk hlo hhi
    · rw [if_neg hge]
      refine ask hc hp hk (by omega) ?_
      cases hl:O.blt (KN key p k) (KN key p ((l+r) / 2)) with
      | true =>
        rw [if_pos rfl]
        exact place hc hp hk hs f l ((l+r) / 2) (by omega) (by omega) (by omega) hlo (fun i a b=>KeyOrd.klt_of_klt_of_kle hl (hs _ _ a b)) h
      | false =>
        rw [if_neg (by simp)]
        exact place hc hp hk hs f ((l+r) / 2+1) r (by omega) (by omega) (by omega) (fun i a=>KeyOrd.kle_trans (hs i ((l+r) / 2) (by omega) (by omega)) hl) hhi h
theorem bin {n:Nat} {G:Array Nat→Shared→Prop} (hc:Cmp key N cmp s) (hN:n≤N):∀ (f:Nat) (p:Array Nat) (k:Nat),InN N p→k+f=n→SortedN key p k →
    (∀ p,InN N p→SortedN key p n→G p s)→(kas_bin f p k).kasWp cmp G s
  | 0,p,k,hp,hf,hs,h=>h p hp (by rw [show n=k by omega]; exact hs)
  | f+1,p,k,hp,hf,hs,h=>by
    unfold kas_bin
    rw [KasT.kasWp_bind]
    refine place hc hp (by omega) hs k 0 k (by omega) (Nat.le_refl _) (by omega) (fun i a=>by omega) (fun i a b=>by omega) fun l hlk hlo hhi=>?_
    refine bin hc hN f _ (k+1) (hp.of (bubble_perm _ _ _)) (by omega) (fun i j hij hj=>?_) h
    have hks:k < p.size:=by rw [hp.size]; omega
    rw [KN_bubble hks (by omega),KN_bubble hks (by omega),show k - (k - l)=l by omega]
    repeat' split
    all_goals first
      | (exfalso; omega)
      | exact KeyOrd.kle_refl _
      | exact hlo _ (by omega)
      | exact KeyOrd.kle_of_klt (hhi _ (by omega) (by omega))
      | exact hs _ _ (by omega) (by omega)
theorem sort {G:Array Nat→Shared→Prop} (hc:Cmp key N cmp s) (h1:1≤N) (h:∀ p,InN N p→SortedN key p N→G p s):(kas_sort N).kasWp cmp G s:=by
  unfold kas_sort
  rw [KasT.kasWp_bind]
  refine count hc (show InN N _ by unfold InN; simp) (Nat.le_refl _) h1 fun m q hq hm1 hm2 hs=>?_
  dsimp only
  by_cases hlt:m < N
  · rw [if_pos hlt,show max m 1=m by omega]
    exact bin hc (Nat.le_refl _) _ q m hq (by omega) hs h
  · rw [if_neg hlt]
    obtain rfl:m=N:=by omega
    exact h q hq hs
end
section
variable {prog:Program} {w:World} {A:Around} {E:Value→Shared→Prop} {s:Shared}
def Keeps (h h':Heap):Prop:=∀ b o,h.get? b=some o→h'.get? b=some o
theorem list_sort {a:Addr} {vs:List Value} {n:Nat} {P:PySem.Fin→Shared→Prop} (key:Nat→O.α) (κ:SortKind) (ho:s.heap.get? a=some (seqObj "list" vs.toArray n)) (h64:vs.length < 64)
    (hk:2≤vs.length→∀ h',(∀ b o,b≠a→s.heap.get? b=some o→h'.get? b=some o)→∀ (Q:SortKind→Shared→Prop),Q κ { s with heap:=h' }→wpAny (model prog w) A (keyKind' vs.toArray) Q E { s with heap:=h' })
    (hc:∀ h',(∀ b o,b≠a→s.heap.get? b=some o→h'.get? b=some o)→Cmp key vs.length (kas_ask prog w A κ vs) { s with heap:=h' })
    (h:∀ p,InN vs.length p→SortedN key p vs.length→P (.done (.ret .none)) { s with heap:=sortedHeap s.heap a vs (List.toArray (p.toList.map fun i=>vs.getD i Value.none)) }) :
    wpAny (model prog w) A (Builtin.«list.sort» ⟨[.ref a],[]⟩) P E s:=by
  rw [list_sort_plain]
  have ha:a < s.heap.objs.size:=Heap.lt_size ho
  refine wpAny_bind (listItems_at ho rfl ?_)
  refine wpAny_bind (listUpdate_at ho rfl ?_ (by rw [sizeLine_eq]; simp; omega))
  obtain ⟨e1,ho1⟩:∃ e1,(s.heap.update a (Obj.mapSeq fun _=>#[])).get? a=some (seqObj "list" #[] e1):=⟨_,get?_update_seq ho (fun _=>#[])⟩
  refine wpAny_bind (seqEpoch_at ho1 rfl ?_)
  refine wpAny_bind (wpAny_newTuple ?_ (by rw [sizeLine_eq]; simp; omega))
  refine wpAny_bind (wpAny_newList ?_)
  refine wpAny_holding ?_
  have keep:∀ b o,b≠a→s.heap.get? b=some o→(((s.heap.update a (Obj.mapSeq fun _=>#[])).push (seqObj "tuple" vs.toArray 0)).push (seqObj "list" #[] 0)).get? b=some o:=fun b o hb q=>by
    have hlt:b < s.heap.objs.size:=Heap.lt_size q
    rw [Heap.get?_push_ne _ _ _ (by rw [size_push',Heap.size_update]; exact Nat.ne_of_lt (Nat.lt_succ_of_lt hlt)),Heap.get?_push_ne _ _ _ (by rw [Heap.size_update]; exact Nat.ne_of_lt hlt),Heap.get?_update_ne _ _ _ _ hb]
    exact q
  have ho6:(((s.heap.update a (Obj.mapSeq fun _=>#[])).push (seqObj "tuple" vs.toArray 0)).push (seqObj "list" #[] 0)).get? a=some (seqObj "list" #[] e1):=by
    rw [Heap.get?_push_ne _ _ _ (by rw [size_push',Heap.size_update]; exact Nat.ne_of_lt (Nat.lt_succ_of_lt ha)),Heap.get?_push_ne _ _ _ (by rw [Heap.size_update]; exact Nat.ne_of_lt ha)]
    exact ho1
  show wpAny (model prog w) A _ P E { s with heap:=((s.heap.update a (Obj.mapSeq fun _=>#[])).push (seqObj "tuple" vs.toArray 0)).push (seqObj "list" #[] 0) }
  dsimp only
  have hsz:vs.toArray.size=vs.length:=by simp
  by_cases h2:vs.toArray.size < 2
  · rw [if_pos h2,if_pos h2]
    refine wpAny_bind (wpAny_pure ?_)
    rw [StateT.run_pure]
    refine wpAny_bind (wpAny_pure ?_)
    dsimp only
    refine wpAny_bind (seqEpoch_at ho6 rfl ?_)
    have e:((arrOf (SortSt.mk' general' (vs.toArray.zip vs.toArray) #[] 7 none)).map (·.2))=List.toArray ((List.range vs.length).toArray.toList.map fun i=>vs.getD i Value.none):=by
      show (vs.toArray.zip vs.toArray).map (·.2)=_
      apply Array.toList_inj.mp
      apply List.ext_getElem
      · simp
      · intro i h1 h2'
        simp at h1 h2' ⊢
        simp [h1]
    rw [e]
    refine wpAny_bind (listUpdate_at ho6 rfl ?_ (hsz2:=by rw [sizeLine_eq]; simp; omega))
    simp only [bne_self_eq_false,Bool.false_eq_true,if_false]
    refine wpAny_pure (h _ (show InN vs.length (List.range vs.length).toArray from List.Perm.refl _) ?_)
    intro i j hij hj
    have:i=j:=by omega
    subst this; exact KeyOrd.kle_refl _
  · rw [if_neg h2,if_neg h2]
    refine wpAny_bind (hk (by omega) _ keep _ ?_)
    refine wpAny_bind (wpAny_mono (kat_run (ks:=vs) (vs:=vs) (Q:=fun st' s'=>∃ p:Array Nat,arrOf st'=p.map (kas_item (vs.toArray.zip vs.toArray))∧failedOf st'=none∧s'=_∧InN vs.length p∧SortedN key p vs.length)
      (G:=fun p s'=>s'=_∧InN vs.length p∧SortedN key p vs.length) rfl (by omega) h64 (fun p st' s' _ har hf hg=>⟨p,har,hf,hg⟩) (sort (hc _ keep) (by omega) fun p a b=>⟨rfl,a,b⟩)) ?_ fun _ _ x=>x)
    rintro ⟨⟨⟩,st'⟩ s' ⟨p,har,hf,rfl,hi,hso⟩
    dsimp only
    have hpl:p.size≤63:=by rw [hi.size]; omega
    refine wpAny_bind (seqEpoch_at ho6 rfl ?_)
    rw [kat_snds rfl har]
    refine wpAny_bind (listUpdate_at ho6 rfl ?_ (hsz2:=by rw [sizeLine_eq]; simp; omega))
    rw [hf]
    simp only [bne_self_eq_false,Bool.false_eq_true,if_false]
    exact wpAny_pure (h p hi hso)
theorem sorted_of {v:Value} {vs:List Value} {g:Heap} {Q:Value→Shared→Prop} (key:Nat→O.α) (κ:SortKind) (h64:vs.length < 64) (kg:Keeps s.heap g)
    (hcol:∀ (Q:List Value→Shared→Prop),Q vs { s with heap:=g }→wpAny (model prog w) A.in1 (collect v) Q E { s with heap:=s.heap })
    (hk:2≤vs.length→∀ h',Keeps s.heap h'→∀ (E:Value→Shared→Prop) (Q:SortKind→Shared→Prop),Q κ { s with heap:=h' }→wpAny (model prog w) A.in1.in1 (keyKind' vs.toArray) Q E { s with heap:=h' })
    (hc:∀ h',Keeps s.heap h'→Cmp key vs.length (kas_ask prog w A.in1.in1 κ vs) { s with heap:=h' })
    (h:∀ (g':Heap) (p:Array Nat),Keeps s.heap g'→InN vs.length p→SortedN key p vs.length→(∃ n,g'.get? g.objs.size=some (seqObj "list" (List.toArray (p.toList.map fun i=>vs.getD i Value.none)) n))→Q (.ref g.objs.size) { s with heap:=g' }) :
    wpAny (model prog w) A (call (.builtin "sorted") [v]) Q E s:=by
  refine Calls.call_function_entry kind_sorted plain_sorted entry_sorted (args_sorted1 _) ?_
  unfold Builtin.«sorted»
  refine wpAny_bind (m:=checkCount "sorted" 1 1 _) (wpAny_pure ?_)
  refine wpAny_bind (hcol _ ?_)
  refine wpAny_bind (wpAny_newList ?_ (by rw [sizeLine_eq]; omega))
  have hoL:(g.push (seqObj "list" vs.toArray 0)).get? g.objs.size=some (seqObj "list" vs.toArray 0):=Heap.get?_push_size _ rfl
  have keep:∀ h',(∀ b o,b≠g.objs.size→(g.push (seqObj "list" vs.toArray 0)).get? b=some o→h'.get? b=some o)→Keeps s.heap h':=fun h' k b o q=>by
    have q':=kg b o q
    exact k b o (Nat.ne_of_lt (Heap.lt_size q')) (Heap.get?_push_of_some _ q')
  show wpAny _ _ _ _ _ { s with heap:=g.push (seqObj "list" vs.toArray 0) }
  refine wpAny_bind (wpAny_holding (wpAny_call_entry slot_list_sort ⟨_,hoL,rfl⟩ entry_list_sort (list_sort key κ hoL h64 (fun z h' k Q q=>hk z h' (keep h' k) _ Q q) (fun h' k=>hc h' (keep h' k)) fun p a1 a2=>⟨_,rfl,?_⟩) (args_list_sort _)))
  refine wpAny_pure ⟨_,rfl,h _ p (keep _ fun b o hb q=>?_) a1 a2 ?_⟩
  · unfold sortedHeap
    have hlt:b < (g.push (seqObj "list" vs.toArray 0)).objs.size:=Heap.lt_size q
    rw [Heap.get?_update_ne _ _ _ _ hb,Heap.get?_push_ne _ _ _ (by rw [size_push',Heap.size_update]; exact Nat.ne_of_lt (Nat.lt_succ_of_lt hlt)),Heap.get?_push_ne _ _ _ (by rw [Heap.size_update]; exact Nat.ne_of_lt hlt),Heap.get?_update_ne _ _ _ _ hb]
    exact q
  · unfold sortedHeap
    have ha:g.objs.size < (g.push (seqObj "list" vs.toArray 0)).objs.size:=Heap.lt_size hoL
    obtain ⟨e1,ho1⟩:∃ e1,((g.push (seqObj "list" vs.toArray 0)).update g.objs.size (Obj.mapSeq fun _=>#[])).get? g.objs.size=some (seqObj "list" #[] e1):=⟨_,get?_update_seq hoL (fun _=>#[])⟩
    have ho6:((((g.push (seqObj "list" vs.toArray 0)).update g.objs.size (Obj.mapSeq fun _=>#[])).push (seqObj "tuple" vs.toArray 0)).push (seqObj "list" #[] 0)).get? g.objs.size=some (seqObj "list" #[] e1):=by
      rw [Heap.get?_push_ne _ _ _ (by rw [size_push',Heap.size_update]; exact Nat.ne_of_lt (Nat.lt_succ_of_lt ha)),Heap.get?_push_ne _ _ _ (by rw [Heap.size_update]; exact Nat.ne_of_lt ha)]
      exact ho1
    exact ⟨_,get?_update_seq ho6 _⟩
end
end SO
set_option maxHeartbeats 4000000
namespace PySem.SeqAt
open AutoSeq1 (wpAny_loadPart')
open MeetsSeq MeetsSeq2 MeetsSeq3 SeqRoads2
def LtAt (A:Around) (s:Shared) (y x:Value) (b:Bool):Prop :=
  ∀ (prog:Program) (w:World) (E:Value→Shared→Prop) (Q:Value→Shared→Prop),Q (.bool b) s→wpAny (model prog w) A (richCompare .Lt y x) Q E s
def lexR (e f:Nat→Bool) (fin:Bool):List Nat→Bool
  | []=>fin
  | i :: r=>if e i=true then lexR e f fin r else f i
theorem tuple_ltAt (l b:Addr) (items items2:Array Value) (n n2:Nat) (dd dd2:Option Addr) (sl sl2:Array (Option Value)) (e f:Nat→Bool) :
    Meets (Builtin.«tuple.__lt__» ⟨[.ref l,.ref b],[]⟩)
      (fun A R s=>s.heap.get? l=some { cls:=.type "tuple",dict:=dd,data:=.seq items n,slots:=sl }∧s.heap.get? b=some { cls:=.type "tuple",dict:=dd2,data:=.seq items2 n2,slots:=sl2 } ∧
        (∀ j (h1:j < items.size) (h2:j < items2.size),EqAt A.in1 s items[j] items2[j] (e j))∧(∀ j (h1:j < items.size) (h2:j < items2.size),e j=false→LtAt A.in1 s items[j] items2[j] (f j)) ∧
        R (.ok (.ret (.bool (lexR e f (decide (items.size < items2.size)) (List.range (min items.size items2.size)))))) s) :=
  .of_wp fun prog w A R s h=>by
    obtain ⟨hp,g,d,tk,os⟩:=s; obtain ⟨hl,hb,he,hf,h⟩:=h
    have f2:=AutoSeq1.sub_tuple_tuple
    have hZ:(items.toList.zip items2.toList).length=min items.size items2.size:=by simp
    wp_walk using wpAny_loadPart' hl,wpAny_loadPart' hb,wpAny_forIn_list _ (fun rest b s'=>b.1=none∧s'=⟨hp,g,d,tk,os⟩∧∃ i,rest=(items.toList.zip items2.toList).drop i ∧
      R (.ok (.ret (.bool (lexR e f (decide (items.size < items2.size)) ((List.range (min items.size items2.size)).drop i))))) ⟨hp,g,d,tk,os⟩) _
    case turn =>
      rintro ⟨y,x⟩ rest b s' ⟨hb',rfl,i,hz,hR⟩
      have hlt:i < (items.toList.zip items2.toList).length:=by
        rcases Nat.lt_or_ge i (items.toList.zip items2.toList).length with h' | h'
        · exact h'
        · rw [List.drop_of_length_le h'] at hz; cases hz
      have hm:i < min items.size items2.size:=hZ ▸ hlt
      have h1:i < items.size:=Nat.lt_of_lt_of_le hm (Nat.min_le_left _ _)
      have h2:i < items2.size:=Nat.lt_of_lt_of_le hm (Nat.min_le_right _ _)
      rw [List.drop_eq_getElem_cons hlt] at hz
      injection hz with hyx hrest
      have hy:y=items[i]:=by have:=congrArg Prod.fst hyx; simpa using this
      have hx:x=items2[i]:=by have:=congrArg Prod.snd hyx; simpa using this
      subst hy hx
      have hd:(List.range (min items.size items2.size)).drop i=i :: (List.range (min items.size items2.size)).drop (i+1):=by simp [List.drop_eq_getElem_cons,hm]
      rw [hd] at hR
      refine wpAny_bind (he i h1 h2 prog w _ _ ?_)
      cases hy:e i with
      | true =>
        have hR':R (.ok (.ret (.bool (lexR e f (decide (items.size < items2.size)) ((List.range (min items.size items2.size)).drop (i+1)))))) ⟨hp,g,d,tk,os⟩:=by
          have:lexR e f (decide (items.size < items2.size)) (i :: (List.range (min items.size items2.size)).drop (i+1))=lexR e f (decide (items.size < items2.size)) ((List.range (min items.size items2.size)).drop (i+1)):=by
            show (if e i=true then _ else _)=_
            rw [if_pos hy]
          rw [this] at hR
          exact hR
        wp_walk
        exact ⟨rfl,rfl,i+1,hrest,hR'⟩
      | false =>
        have hR':R (.ok (.ret (.bool (f i)))) ⟨hp,g,d,tk,os⟩:=by
          have:lexR e f (decide (items.size < items2.size)) (i :: (List.range (min items.size items2.size)).drop (i+1))=f i:=by
            show (if e i=true then _ else _)=_
            rw [if_neg (by simp [hy])]
          rw [this] at hR
          exact hR
        simp only [Bool.not_false,if_true]
        refine wpAny_bind (wpAny_rule (wpAny_bind (hf i h1 h2 hy prog w _ _ ?_)))
        wp_walk
        exact ⟨_,rfl,hR'⟩
    case fin =>
      rintro ⟨b1,b2⟩ s' ⟨hb',rfl,i,hz,hR⟩
      simp only at hb'
      subst hb'
      have hge:min items.size items2.size≤i:=by
        rcases Nat.lt_or_ge i (items.toList.zip items2.toList).length with h' | h'
        · rw [List.drop_eq_getElem_cons h'] at hz; cases hz
        · exact hZ ▸ h'
      rw [List.drop_of_length_le (by simpa using hge)] at hR
      wp_walk
      exact ⟨_,rfl,by simpa [Builtin.Tuple.tupleCompareSizes,lexR] using hR⟩
    case h =>
      exact ⟨rfl,rfl,0,rfl,by simpa using h⟩
section
variable {A:Around} {s:Shared}
theorem LtAt.tuples {l b:Addr} {items items2:Array Value} {e f:Nat→Bool} (hl:s.heap.IsTuple l items) (hb:s.heap.IsTuple b items2) (hu:A.units < cLine)
    (he:∀ j (h1:j < items.size) (h2:j < items2.size),EqAt A.in1 s items[j] items2[j] (e j)) (hf:∀ j (h1:j < items.size) (h2:j < items2.size),e j=false→LtAt A.in1 s items[j] items2[j] (f j)) :
    LtAt A s (.ref l) (.ref b) (lexR e f (decide (items.size < items2.size)) (List.range (min items.size items2.size))):=fun prog w E Q h=>by
  obtain ⟨⟨cls,dd,data,sl⟩,ho,hc,n,hd⟩:=id hl
  obtain ⟨⟨cls2,dd2,data2,sl2⟩,ho2,hc2,n2,hd2⟩:=id hb
  simp only at hc hd hc2 hd2
  subst hc hd hc2 hd2
  exact richCompare_meets_room (op:=.Lt) ⟨_,ho,rfl⟩ ⟨_,ho2,rfl⟩ F.slot_tuple_lt F.entry_tuple_lt (F.args_tuple_lt_2 _ _) (tuple_ltAt l b items items2 n n2 dd dd2 sl sl2 e f)
    ⟨ho,ho2,he,hf,show Value.bool (lexR e f (decide (items.size < items2.size)) (List.range (min items.size items2.size)))≠Value.notImplemented∧Q (.bool (lexR e f (decide (items.size < items2.size)) (List.range (min items.size items2.size)))) s from ⟨(fun x=>nomatch x),h⟩⟩ hu
end
end PySem.SeqAt
set_option maxHeartbeats 400000
namespace L2
open PySem PySem.Spec PyProof.Rows
def rankD:D→Nat
  | .non=>0 | .bl _=>1 | .int _=>2 | .str _=>3 | .tup _=>4
open Classical in
noncomputable def eqD (a b:D):Bool:=decide (a=b)
theorem str_ext {x y:Str} (e:x.cps.toList=y.cps.toList):x=y:=by
  cases x; cases y
  simp only at e
  congr
  exact Array.toList_inj.mp e
theorem eqD_eq {a b:D} (h:eqD a b=true):a=b:=@of_decide_eq_true _ (Classical.propDecidable _) h
theorem eqD_self (d:D):eqD d d=true:=@decide_eq_true _ (Classical.propDecidable _) rfl
theorem eqD_iff {a b:D}:eqD a b=true↔a=b:=⟨eqD_eq,fun h=>by subst h; exact eqD_self _⟩
theorem eqD_no {a b:D} (h:eqD a b=false):a≠b:=fun e=>by
  rw [eqD_iff.mpr e] at h
  cases h
def klt:D→D→Bool
  | .bl a=>fun e=>match e with | .bl b=>!a && b | _=>false
  | .int a=>fun e=>match e with | .int b=>decide (a < b) | _=>false
  | .str x=>fun e=>match e with | .str y=>decide (x.cps.toList < y.cps.toList) | _=>false
  | _=>fun _=>false
def dlt0 (a b:D):Bool:=decide (rankD a < rankD b) || klt a b
mutual
noncomputable def dlt:D→D→Bool
  | .tup xs=>fun e=>match e with | .tup ys=>dltL xs ys | _=>false
  | .non=>dlt0 .non
  | .bl b=>dlt0 (.bl b)
  | .int i=>dlt0 (.int i)
  | .str x=>dlt0 (.str x)
noncomputable def dltL:List D→List D→Bool
  | []=>fun ys=>match ys with | []=>false | _ :: _=>true
  | x :: xs=>fun ys=>match ys with | []=>false | y :: ys=>if eqD x y=true then dltL xs ys else dlt x y
end
theorem dlt_int (a b:Int):dlt (.int a) (.int b)=decide (a < b):=rfl
theorem dlt_str (x y:Str):dlt (.str x) (.str y)=decide (x.cps.toList < y.cps.toList):=rfl
theorem dlt_tt (xs ys:List D):dlt (.tup xs) (.tup ys)=dltL xs ys:=rfl
theorem dltL_nc (y:D) (ys:List D):dltL [] (y :: ys)=true:=rfl
theorem dltL_cn (x:D) (xs:List D):dltL (x :: xs) []=false:=rfl
theorem dltL_cc (x y:D) (xs ys:List D):dltL (x :: xs) (y :: ys)=if eqD x y=true then dltL xs ys else dlt x y:=rfl
theorem str_tri {x y:Str} (h1:¬ x.cps.toList < y.cps.toList) (h2:¬ y.cps.toList < x.cps.toList):x=y :=
  str_ext (List.le_antisymm (List.not_lt.mp h2) (List.not_lt.mp h1))
theorem ff {P:Prop} (h:false=true):P:=Bool.noConfusion h
theorem klt_e {P:D→D→Prop} (h1:P (.bl false) (.bl true)) (h2:∀ i j:Int,i < j→P (.int i) (.int j)) (h3:∀ x y:Str,x.cps.toList < y.cps.toList→P (.str x) (.str y)):∀ {a b:D},klt a b=true→P a b:=by
  intro a b h
  cases a with
  | bl p =>
    cases b with
    | bl q=>cases p <;> cases q <;> first | exact h1 | exact ff h
    | non=>exact ff h
    | int _=>exact ff h
    | str _=>exact ff h
    | tup _=>exact ff h
  | int p =>
    cases b with
    | int q=>exact h2 p q (of_decide_eq_true h)
    | non=>exact ff h
    | bl _=>exact ff h
    | str _=>exact ff h
    | tup _=>exact ff h
  | str p =>
    cases b with
    | str q=>exact h3 p q (of_decide_eq_true h)
    | non=>exact ff h
    | bl _=>exact ff h
    | int _=>exact ff h
    | tup _=>exact ff h
  | non=>exact ff h
  | tup _=>exact ff h
theorem klt_rank {a b:D} (h:klt a b=true):rankD a=rankD b∧rankD a < 4:=klt_e (P:=fun a b=>rankD a=rankD b∧rankD a < 4) ⟨rfl,by decide⟩ (fun _ _ _=>⟨rfl,by show 2 < 4; decide⟩) (fun _ _ _=>⟨rfl,by show 3 < 4; decide⟩) h
theorem klt_tr {a b c:D} (h:klt a b=true):klt b c=true→klt a c=true:=klt_e (P:=fun a b=>klt b c=true→klt a c=true) (fun h=>by cases c <;> exact ff h)
  (fun i j hij h=>by
    cases c with
    | int k=>exact decide_eq_true (Int.lt_trans hij (of_decide_eq_true h))
    | _=>exact ff h)
  (fun x y hxy h=>by
    cases c with
    | str z=>exact decide_eq_true (List.lt_trans hxy (of_decide_eq_true h))
    | _=>exact ff h) h
theorem dlt0_e {a b:D} (h:dlt0 a b=true):rankD a < rankD b∨klt a b=true:=(Bool.or_eq_true _ _ ▸ h:_∨_).imp of_decide_eq_true id
theorem dlt0_r {a b:D} (h:rankD a < rankD b):dlt0 a b=true:=by unfold dlt0; rw [decide_eq_true h]; rfl
theorem dlt0_k {a b:D} (h:klt a b=true):dlt0 a b=true:=by unfold dlt0; rw [h,Bool.or_true]
theorem dlt_0:∀ {a:D} (b:D),rankD a < 4→dlt a b=dlt0 a b
  | .non,_,_=>rfl
  | .bl _,_,_=>rfl
  | .int _,_,_=>rfl
  | .str _,_,_=>rfl
  | .tup _,_,h=>absurd h (by show ¬ 4 < 4; decide)
theorem tup_lt {xs:List D} {b:D} (h:dlt (.tup xs) b=true):∃ ys,b=.tup ys∧dltL xs ys=true:=by
  cases b with
  | tup ys=>exact ⟨ys,rfl,h⟩
  | _=>exact ff h
theorem tup_of {a:D} (h:¬ rankD a < 4):∃ xs,a=.tup xs:=by
  cases a with
  | tup xs=>exact ⟨xs,rfl⟩
  | non=>exact absurd (show 0 < 4 by decide) h
  | bl _=>exact absurd (show 1 < 4 by decide) h
  | int _=>exact absurd (show 2 < 4 by decide) h
  | str _=>exact absurd (show 3 < 4 by decide) h
theorem dlt_rank {a b:D} (h:dlt a b=true):rankD a≤rankD b:=by
  by_cases ha:rankD a < 4
  · rw [dlt_0 b ha] at h
    rcases dlt0_e h with h | h
    · omega
    · exact Nat.le_of_eq (klt_rank h).1
  · obtain ⟨xs,rfl⟩:=tup_of ha
    obtain ⟨ys,rfl,_⟩:=tup_lt h
    exact Nat.le_refl _
theorem tr0 {a b c:D} (ha:rankD a < 4) (h1:dlt a b=true) (h2:dlt b c=true):dlt a c=true:=by
  rw [dlt_0 _ ha] at h1 ⊢
  have hr:=dlt_rank h2
  rcases dlt0_e h1 with h | h
  · exact dlt0_r (Nat.lt_of_lt_of_le h hr)
  · have hk:=klt_rank h
    rw [dlt_0 _ (by rw [← hk.1]; exact hk.2)] at h2
    rcases dlt0_e h2 with q | q
    · exact dlt0_r (by rw [hk.1]; exact q)
    · exact dlt0_k (klt_tr h q)
theorem tot0:∀ {a:D} (b:D),rankD a < 4→dlt a b=false→dlt b a=false→a=b:=by
  intro a b ha h1 h2
  rw [dlt_0 _ ha] at h1
  have k1:¬ rankD a < rankD b:=fun z=>by rw [dlt0_r z] at h1; cases h1
  have hb:rankD b < 4:=by omega
  rw [dlt_0 _ hb] at h2
  have k2:¬ rankD b < rankD a:=fun z=>by rw [dlt0_r z] at h2; cases h2
  have q1:klt a b=false:=by
    cases h:klt a b with
    | false=>rfl
    | true=>rw [dlt0_k h] at h1; cases h1
  have q2:klt b a=false:=by
    cases h:klt b a with
    | false=>rfl
    | true=>rw [dlt0_k h] at h2; cases h2
  have e:rankD a=rankD b:=by omega
  clear h1 h2 k1 k2 hb
  cases a with
  | non=>cases b <;> first | rfl | exact absurd e (Nat.ne_of_beq_eq_false rfl)
  | bl p =>
    cases b with
    | bl q=>cases p <;> cases q <;> first | rfl | exact ff q1.symm | exact ff q2.symm
    | _=>exact absurd e (Nat.ne_of_beq_eq_false rfl)
  | int p =>
    cases b with
    | int q=>exact congrArg D.int (Int.le_antisymm (Int.not_lt.mp (of_decide_eq_false q2)) (Int.not_lt.mp (of_decide_eq_false q1)))
    | _=>exact absurd e (Nat.ne_of_beq_eq_false rfl)
  | str p =>
    cases b with
    | str q=>exact congrArg D.str (str_tri (of_decide_eq_false q1) (of_decide_eq_false q2))
    | _=>exact absurd e (Nat.ne_of_beq_eq_false rfl)
  | tup _=>exact absurd ha (by show ¬ 4 < 4; decide)
mutual
theorem dlt_irr:∀ d:D,dlt d d=false
  | .non=>rfl
  | .bl b=>by cases b <;> rfl
  | .int i=>decide_eq_false (Int.lt_irrefl i)
  | .str x=>decide_eq_false (List.lt_irrefl _)
  | .tup xs=>dltL_irr xs
theorem dltL_irr:∀ ds:List D,dltL ds ds=false
  | []=>rfl
  | d :: ds=>by rw [dltL_cc,if_pos (eqD_self d)]; exact dltL_irr ds
end
mutual
theorem dlt_tot:∀ a b:D,dlt a b=false→dlt b a=false→a=b
  | .non,b,h1,h2=>tot0 b (by show 0 < 4; decide) h1 h2
  | .bl x,b,h1,h2=>tot0 b (by show 1 < 4; decide) h1 h2
  | .int x,b,h1,h2=>tot0 b (by show 2 < 4; decide) h1 h2
  | .str x,b,h1,h2=>tot0 b (by show 3 < 4; decide) h1 h2
  | .tup xs,b,h1,h2=>by
    by_cases hb:rankD b < 4
    · exact (tot0 (.tup xs) hb h2 h1).symm
    · obtain ⟨ys,rfl⟩:=tup_of hb
      exact congrArg D.tup (dltL_tot xs ys h1 h2)
theorem dltL_tot:∀ a b:List D,dltL a b=false→dltL b a=false→a=b
  | [],[],_,_=>rfl
  | [],_ :: _,h1,_=>ff h1.symm
  | _ :: _,[],_,h2=>ff h2.symm
  | x :: xs,y :: ys,h1,h2=>by
    rw [dltL_cc] at h1 h2
    cases he:eqD x y with
    | true =>
      have e:=eqD_eq he
      subst e
      rw [if_pos he] at h1 h2
      rw [dltL_tot xs ys h1 h2]
    | false =>
      rw [if_neg (fun z=>eqD_no he (eqD_eq z))] at h1
      rw [if_neg (fun z=>eqD_no he (eqD_eq z).symm)] at h2
      exact absurd (dlt_tot x y h1 h2) (eqD_no he)
end
mutual
theorem dlt_tr:∀ a b c:D,dlt a b=true→dlt b c=true→dlt a c=true
  | .non,b,c,h1,h2=>tr0 (by show 0 < 4; decide) h1 h2
  | .bl x,b,c,h1,h2=>tr0 (by show 1 < 4; decide) h1 h2
  | .int x,b,c,h1,h2=>tr0 (by show 2 < 4; decide) h1 h2
  | .str x,b,c,h1,h2=>tr0 (by show 3 < 4; decide) h1 h2
  | .tup xs,b,c,h1,h2=>by
    obtain ⟨ys,rfl,q1⟩:=tup_lt h1
    obtain ⟨zs,rfl,q2⟩:=tup_lt h2
    exact dltL_tr xs ys zs q1 q2
theorem dltL_tr:∀ a b c:List D,dltL a b=true→dltL b c=true→dltL a c=true
  | [],[],_,h1,_=>ff h1
  | [],_ :: _,[],_,h2=>ff h2
  | [],_ :: _,_ :: _,_,_=>rfl
  | _ :: _,[],_,h1,_=>ff h1
  | _ :: _,_ :: _,[],_,h2=>ff h2
  | x :: xs,y :: ys,z :: zs,h1,h2=>by
    rw [dltL_cc] at h1 h2 ⊢
    cases hxy:eqD x y with
    | true =>
      have e:=eqD_eq hxy
      subst e
      rw [if_pos hxy] at h1
      cases hxz:eqD x z with
      | true =>
        rw [if_pos hxz] at h2
        rw [if_pos rfl]
        exact dltL_tr xs ys zs h1 h2
      | false =>
        rw [if_neg (fun z=>eqD_no hxz (eqD_eq z))] at h2
        rw [if_neg Bool.false_ne_true]
        exact h2
    | false =>
      rw [if_neg (fun z=>eqD_no hxy (eqD_eq z))] at h1
      cases hyz:eqD y z with
      | true =>
        have e:=eqD_eq hyz
        subst e
        rw [if_neg (fun z=>eqD_no hxy (eqD_eq z))]
        exact h1
      | false =>
        rw [if_neg (fun z=>eqD_no hyz (eqD_eq z))] at h2
        have g:=dlt_tr x y z h1 h2
        rw [if_neg]
        · exact g
        · intro z'
          have e:=eqD_eq z'
          subst e
          rw [dlt_irr] at g
          cases g
end
noncomputable def ordD:KeyOrd where
  α:=D
  blt:=dlt
  irrefl:=dlt_irr
  trans:=dlt_tr
  negTrans:=fun a b c h=>by
    cases h1:dlt a b with
    | true=>exact .inl rfl
    | false =>
      cases h2:dlt b a with
      | true=>exact .inr (dlt_tr b a c h2 h)
      | false =>
        have e:=dlt_tot a b h1 h2
        subst e
        exact .inr h
  total:=dlt_tot
end L2
set_option maxHeartbeats 200000
namespace L2
open PySem PySem.Spec PyProof.Rows
def UpD (ds:List D):Prop:=ds.Pairwise fun a b=>dlt b a=false
theorem upD_unique {xs ys:List D} (hx:UpD xs) (hy:UpD ys) (h:xs.Perm ys):xs=ys :=
  h.eq_of_pairwise (fun a b _ _ h1 h2=>dlt_tot a b h2 h1) hx hy
mutual
def Sim:D→D→Prop
  | .int _=>fun e=>match e with | .int _=>True | _=>False
  | .str _=>fun e=>match e with | .str _=>True | _=>False
  | .tup xs=>fun e=>match e with | .tup ys=>SimL xs ys | _=>False
  | _=>fun _=>False
def SimL:List D→List D→Prop
  | []=>fun _=>True
  | x :: xs=>fun ys=>match ys with | []=>True | y :: ys=>Sim x y∧SimL xs ys
end
theorem Sim_t {xs ys:List D} (h:SimL xs ys):Sim (.tup xs) (.tup ys):=h
theorem Sim_t' {xs ys:List D} (h:Sim (.tup xs) (.tup ys)):SimL xs ys:=h
theorem SimL_c {x y:D} {xs ys:List D} (h:Sim x y) (k:SimL xs ys):SimL (x :: xs) (y :: ys):=⟨h,k⟩
theorem SimL_c' {x y:D} {xs ys:List D} (h:SimL (x :: xs) (y :: ys)):Sim x y∧SimL xs ys:=h
theorem SimL_n (ys:List D):SimL [] ys:=trivial
theorem SimL_m (xs:List D):SimL xs []:=by cases xs <;> exact trivial
theorem SimL.at_:∀ {xs ys:List D} {i:Nat} {x y:D},SimL xs ys→xs[i]?=some x→ys[i]?=some y→Sim x y
  | [],_,i,x,y,_,hx,_=>by simp at hx
  | _ :: _,[],i,x,y,_,_,hy=>by simp at hy
  | a :: xs,b :: ys,0,x,y,h,hx,hy=>by
    simp at hx hy
    subst hx; subst hy
    exact (SimL_c' h).1
  | a :: xs,b :: ys,i+1,x,y,h,hx,hy=>by
    exact SimL.at_ (i:=i) (SimL_c' h).2 (by simpa using hx) (by simpa using hy)
mutual
theorem Den.det {H:Hp}:∀ {d e:D} {v:V},Den H v d→Den H v e→d=e
  | .non,e,v,h1,h2=>by
    have:v=.non:=h1
    subst this
    cases e with
    | non=>rfl
    | tup ds=>obtain ⟨p,vs,z,_⟩:=den_tup h2; cases z
    | bl b=>exact absurd (show V.non=.bl b from h2) (fun z=>nomatch z)
    | int b=>exact absurd (show V.non=.int b from h2) (fun z=>nomatch z)
    | str b=>exact absurd (show V.non=.str b from h2) (fun z=>nomatch z)
  | .bl b,e,v,h1,h2=>by
    have:v=.bl b:=h1
    subst this
    cases e with
    | bl c=>have z:V.bl b=.bl c:=h2; cases z; rfl
    | tup ds=>obtain ⟨p,vs,z,_⟩:=den_tup h2; cases z
    | non=>exact absurd (show V.bl b=.non from h2) (fun z=>nomatch z)
    | int c=>exact absurd (show V.bl b=.int c from h2) (fun z=>nomatch z)
    | str c=>exact absurd (show V.bl b=.str c from h2) (fun z=>nomatch z)
  | .int b,e,v,h1,h2=>by
    have:v=.int b:=h1
    subst this
    cases e with
    | int c=>have z:V.int b=.int c:=h2; cases z; rfl
    | tup ds=>obtain ⟨p,vs,z,_⟩:=den_tup h2; cases z
    | non=>exact absurd (show V.int b=.non from h2) (fun z=>nomatch z)
    | bl c=>exact absurd (show V.int b=.bl c from h2) (fun z=>nomatch z)
    | str c=>exact absurd (show V.int b=.str c from h2) (fun z=>nomatch z)
  | .str b,e,v,h1,h2=>by
    have:v=.str b:=h1
    subst this
    cases e with
    | str c=>have z:V.str b=.str c:=h2; cases z; rfl
    | tup ds=>obtain ⟨p,vs,z,_⟩:=den_tup h2; cases z
    | non=>exact absurd (show V.str b=.non from h2) (fun z=>nomatch z)
    | bl c=>exact absurd (show V.str b=.bl c from h2) (fun z=>nomatch z)
    | int c=>exact absurd (show V.str b=.int c from h2) (fun z=>nomatch z)
  | .tup ds,e,v,h1,h2=>by
    obtain ⟨p,vs,rfl,hp,hd⟩:=den_tup h1
    cases e with
    | tup es =>
      obtain ⟨q,us,z,hq,he⟩:=den_tup h2
      cases z
      rw [hp] at hq
      cases hq
      rw [DenL.det hd he]
    | non=>exact absurd (show V.ref p=.non from h2) (fun z=>nomatch z)
    | bl c=>exact absurd (show V.ref p=.bl c from h2) (fun z=>nomatch z)
    | int c=>exact absurd (show V.ref p=.int c from h2) (fun z=>nomatch z)
    | str c=>exact absurd (show V.ref p=.str c from h2) (fun z=>nomatch z)
theorem DenL.det {H:Hp}:∀ {ds es:List D} {vs:List V},DenL H vs ds→DenL H vs es→ds=es
  | [],[],_,_,_=>rfl
  | [],_ :: _,[],_,h=>h.elim
  | [],_ :: _,_ :: _,h,_=>h.elim
  | _ :: _,[],[],h,_=>h.elim
  | _ :: _,[],_ :: _,_,h=>h.elim
  | _ :: _,_ :: _,[],h,_=>h.elim
  | d :: ds,e :: es,v :: vs,h1,h2=>by rw [Den.det h1.1 h2.1,DenL.det h1.2 h2.2]
end
open SeqAt (lexR)
theorem lexR_map (e f:Nat→Bool) (fin:Bool):∀ r:List Nat,lexR e f fin (r.map Nat.succ)=lexR (fun i=>e (i+1)) (fun i=>f (i+1)) fin r
  | []=>rfl
  | i :: r=>by
    show (if e (i+1)=true then lexR e f fin (r.map Nat.succ) else f (i+1))=_
    rw [lexR_map e f fin r]
    rfl
theorem lexR_dlt:∀ xs ys:List D,lexR (fun j=>eqD (xs.getD j .non) (ys.getD j .non)) (fun j=>dlt (xs.getD j .non) (ys.getD j .non)) (decide (xs.length < ys.length)) (List.range (min xs.length ys.length))=dltL xs ys
  | [],[]=>rfl
  | [],y :: ys=>by rw [dltL_nc]; simp [lexR]
  | x :: xs,[]=>by rw [dltL_cn]; simp [lexR]
  | x :: xs,y :: ys=>by
    have ih:=lexR_dlt xs ys
    rw [dltL_cc,show min (x :: xs).length (y :: ys).length=min xs.length ys.length+1 by simp only [List.length_cons]; omega,List.range_succ_eq_map]
    show (if eqD x y=true then lexR _ _ _ ((List.range (min xs.length ys.length)).map Nat.succ) else dlt x y)=_
    rw [lexR_map]
    have ed:decide ((x :: xs).length < (y :: ys).length)=decide (xs.length < ys.length):=by simp
    rw [ed]
    cases he:eqD x y with
    | true =>
      rw [if_pos rfl,if_pos rfl]
      simpa using ih
    | false =>
      rw [if_neg (by simp),if_neg (by simp)]
theorem allR_eq:∀ xs ys:List D,((List.range (min xs.length ys.length)).all (fun j=>eqD (xs.getD j .non) (ys.getD j .non)) && xs.length == ys.length)=eqD (.tup xs) (.tup ys):=by
  intro xs ys
  rw [Bool.eq_iff_iff,eqD_iff]
  constructor
  · intro h
    simp only [Bool.and_eq_true,List.all_eq_true,List.mem_range,beq_iff_eq] at h
    obtain ⟨h1,h2⟩:=h
    congr 1
    apply List.ext_getElem h2
    intro i a b
    have:=eqD_iff.mp (h1 i (by omega))
    simpa [List.getD_eq_getElem?_getD,a,b] using this
  · intro h
    injection h with h
    subst h
    simp [eqD_iff]
end L2
namespace L2
open PySem PySem.Spec PyProof.Rows
section
variable {X:Cx} {pins:List (Addr × Obj)} {σ:St} {H:Hp} {s:Shared}
theorem tup_keep {h h':Heap} {a:Addr} {its:Array Value} (k:SO.Keeps h h') (t:h.IsTuple a its):h'.IsTuple a its:=by
  obtain ⟨o,e,r⟩:=t
  exact ⟨o,k _ _ e,r⟩
theorem eq_intD {s':Shared} {i j:Int} {A:Around} {x y:V} {v u:Value} (hx:Den H x (.int i)) (hy:Den H y (.int j)) (rx:RelV x v) (ry:RelV y u):SeqAt.EqAt A s' v u (eqD (.int i) (.int j)):=by
  have e1:x=.int i:=hx
  have e2:y=.int j:=hy
  subst e1
  subst e2
  obtain ⟨t,rfl⟩:=rx
  obtain ⟨t',rfl⟩:=ry
  have key:=SeqAt.EqAt.int_int (A:=A) (s:=s') i t j t'
  have e:(i == j)=eqD (.int i) (.int j):=by
    rw [Bool.eq_iff_iff,eqD_iff,beq_iff_eq]
    exact ⟨fun z=>by rw [z],fun z=>by injection z⟩
  rw [← e]
  exact key
theorem eq_strD {s':Shared} {i j:Str} {A:Around} {x y:V} {v u:Value} (hx:Den H x (.str i)) (hy:Den H y (.str j)) (rx:RelV x v) (ry:RelV y u):SeqAt.EqAt A s' v u (eqD (.str i) (.str j)):=by
  have e1:x=.str i:=hx
  have e2:y=.str j:=hy
  subst e1
  subst e2
  obtain ⟨t,rfl⟩:=rx
  obtain ⟨t',rfl⟩:=ry
  have key:=SeqAt.EqAt.str_str (A:=A) (s:=s') i t j t'
  have e:(i == j)=eqD (.str i) (.str j):=by
    rw [Bool.eq_iff_iff,eqD_iff,beq_iff_eq]
    exact ⟨fun z=>by rw [z],fun z=>by injection z⟩
  rw [← e]
  exact key
theorem lt_intD {s':Shared} {i j:Int} {A:Around} {x y:V} {v u:Value} (hx:Den H x (.int i)) (hy:Den H y (.int j)) (rx:RelV x v) (ry:RelV y u):SeqAt.LtAt A s' v u (dlt (.int i) (.int j)):=by
  have e1:x=.int i:=hx
  have e2:y=.int j:=hy
  subst e1
  subst e2
  obtain ⟨t,rfl⟩:=rx
  obtain ⟨t',rfl⟩:=ry
  intro prog w E Q h
  rw [dlt_int] at h
  exact PyProof.Rows.lt_int h
theorem lt_strD {s':Shared} {i j:Str} {A:Around} {x y:V} {v u:Value} (hx:Den H x (.str i)) (hy:Den H y (.str j)) (rx:RelV x v) (ry:RelV y u):SeqAt.LtAt A s' v u (dlt (.str i) (.str j)):=by
  have e1:x=.str i:=hx
  have e2:y=.str j:=hy
  subst e1
  subst e2
  obtain ⟨t,rfl⟩:=rx
  obtain ⟨t',rfl⟩:=ry
  intro prog w E Q h
  rw [dlt_str] at h
  exact PyProof.Rows.lt_str h
def CmpD (H:Hp) (s':Shared) (n:Nat):Prop :=
  ∀ (d e:D) (A:Around) (x y:V) (v u:Value),Shal n d→Shal n e→Sim d e→Den H x d→Den H y e→RelV x v→RelV y u→A.units+n < cLine→SeqAt.EqAt A s' v u (eqD d e)∧SeqAt.LtAt A s' v u (dlt d e)
theorem cmpD_tup (I:Inv X pins σ H s) {s':Shared} (kp:SO.Keeps s.heap s'.heap) {n:Nat} (ih:CmpD H s' n) {ds es:List D} {A:Around} {x y:V} {v u:Value} (hs:Shal (n+1) (.tup ds)) (hs2:Shal (n+1) (.tup es))
    (hm:Sim (.tup ds) (.tup es)) (hx:Den H x (.tup ds)) (hy:Den H y (.tup es)) (rx:RelV x v) (ry:RelV y u) (hu:A.units+(n+1) < cLine):SeqAt.EqAt A s' v u (eqD (.tup ds) (.tup es))∧SeqAt.LtAt A s' v u (dlt (.tup ds) (.tup es)):=by
  obtain ⟨a,vs,rfl,ha,hda⟩:=den_tup hx
  obtain ⟨b,us,rfl,hb,hdb⟩:=den_tup hy
  cases rx
  cases ry
  obtain ⟨its,r1,p1,_⟩:=I.tuple (SqT.of (K:=X.K) ha)
  obtain ⟨its2,r2,p2,_⟩:=I.tuple (SqT.of (K:=X.K) hb)
  have l1:=hda.len
  have l2:=hdb.len
  have m1:=r1.length
  have m2:=r2.length
  replace hm:=Sim_t' hm
  have both:∀ j (h1:j < its.toArray.size) (h2:j < its2.toArray.size),SeqAt.EqAt A.in1 s' its.toArray[j] its2.toArray[j] (eqD (ds.getD j .non) (es.getD j .non))∧SeqAt.LtAt A.in1 s' its.toArray[j] its2.toArray[j] (dlt (ds.getD j .non) (es.getD j .non)):=by
    intro j h1 h2
    have hj1:j < vs.length:=by simpa [m1] using h1
    have hj2:j < us.length:=by simpa [m2] using h2
    obtain ⟨d1,g1,b1⟩:=hda.at_ (List.getElem?_eq_getElem hj1)
    obtain ⟨d2,g2,b2⟩:=hdb.at_ (List.getElem?_eq_getElem hj2)
    obtain ⟨w1,hw1,rw1⟩:=r1.get (List.getElem?_eq_getElem hj1)
    obtain ⟨w2,hw2,rw2⟩:=r2.get (List.getElem?_eq_getElem hj2)
    have q1:its.toArray[j]=w1:=by
      have:=(List.getElem?_eq_some_iff.mp hw1).2
      simpa using this
    have q2:its2.toArray[j]=w2:=by
      have:=(List.getElem?_eq_some_iff.mp hw2).2
      simpa using this
    rw [q1,q2]
    rw [List.getD_eq_getElem?_getD,List.getD_eq_getElem?_getD,g1,g2]
    have s1:=(hs.2 ds rfl).2 d1 (List.mem_of_getElem? g1)
    have s2:=(hs2.2 es rfl).2 d2 (List.mem_of_getElem? g2)
    exact ih d1 d2 A.in1 _ _ _ _ s1 s2 (hm.at_ g1 g2) b1 b2 rw1 rw2 (by first | (simp only [Around.in1]; omega) | omega)
  constructor
  · by_cases hab:a=b
    · subst hab
      have e:=Den.det hx hy
      rw [eqD_iff.mpr e]
      exact SeqAt.EqAt.same _
    · have key:=SeqAt.EqAt.of_refs hab (SeqAt.RcAt.tuples (A:=A) (s:=s') (e:=fun j=>eqD (ds.getD j .non) (es.getD j .non)) (tup_keep kp p1) (tup_keep kp p2) (by omega) fun j h1 h2=>(both j h1 h2).1)
      have q:=allR_eq ds es
      rw [show ds.length=its.toArray.size by simp; omega,show es.length=its2.toArray.size by simp; omega] at q
      rw [q] at key
      exact key
  · have key:=SeqAt.LtAt.tuples (A:=A) (s:=s') (e:=fun j=>eqD (ds.getD j .non) (es.getD j .non)) (f:=fun j=>dlt (ds.getD j .non) (es.getD j .non)) (tup_keep kp p1) (tup_keep kp p2) (by omega)
      (fun j h1 h2=>(both j h1 h2).1) (fun j h1 h2 _=>(both j h1 h2).2)
    have q:=lexR_dlt ds es
    rw [show ds.length=its.toArray.size by simp; omega,show es.length=its2.toArray.size by simp; omega] at q
    rw [q] at key
    rw [dlt_tt]
    exact key
theorem sim_cases {P:D→D→Prop} (hi:∀ i j,P (.int i) (.int j)) (hs:∀ i j,P (.str i) (.str j)) (ht:∀ xs ys,SimL xs ys→P (.tup xs) (.tup ys)):∀ {d e:D},Sim d e→P d e:=by
  intro d e h
  cases d <;> cases e <;> first | exact hi _ _ | exact hs _ _ | exact ht _ _ (Sim_t' h) | exact False.elim h
theorem cmpD (I:Inv X pins σ H s) {s':Shared} (kp:SO.Keeps s.heap s'.heap):∀ n:Nat,CmpD H s' n:=by
  intro n
  induction n with
  | zero =>
    intro d e A x y v u hs hs2 hm
    revert hs hs2
    refine sim_cases (P:=fun d e=>Shal 0 d→Shal 0 e→Den H x d→Den H y e→RelV x v→RelV y u→A.units+0 < cLine→SeqAt.EqAt A s' v u (eqD d e)∧SeqAt.LtAt A s' v u (dlt d e)) ?_ ?_ ?_ hm
    · exact fun i j _ _ hx hy rx ry _=>⟨eq_intD hx hy rx ry,lt_intD hx hy rx ry⟩
    · exact fun i j _ _ hx hy rx ry _=>⟨eq_strD hx hy rx ry,lt_strD hx hy rx ry⟩
    · exact fun xs ys _ hs _ _ _ _ _ _=>absurd rfl (hs.2 xs)
  | succ n ih =>
    intro d e A x y v u hs hs2 hm
    revert hs hs2
    refine sim_cases (P:=fun d e=>Shal (n+1) d→Shal (n+1) e→Den H x d→Den H y e→RelV x v→RelV y u→A.units+(n+1) < cLine→SeqAt.EqAt A s' v u (eqD d e)∧SeqAt.LtAt A s' v u (dlt d e)) ?_ ?_ ?_ hm
    · exact fun i j _ _ hx hy rx ry _=>⟨eq_intD hx hy rx ry,lt_intD hx hy rx ry⟩
    · exact fun i j _ _ hx hy rx ry _=>⟨eq_strD hx hy rx ry,lt_strD hx hy rx ry⟩
    · exact fun xs ys hm hs hs2 hx hy rx ry hu=>cmpD_tup I kp ih hs hs2 (Sim_t hm) hx hy rx ry hu
end
end L2
set_option maxHeartbeats 400000
namespace SO
open PySem PySem.W PyProof.Rows
section
variable {prog:Program} {w:World} {A:Around} {E:Value→Shared→Prop} {s:Shared}
theorem collect_seq {l:Addr} {c:String} {vs:List Value} {o:Obj} {n:Nat} {Q:List Value→Shared→Prop} (ho:s.heap.get? l=some o) (hc:o.cls=.type c) (hcc:c = "list"∨c = "tuple") (hd:o.data=.seq vs.toArray n)
    (h:Q vs { s with heap:=(s.heap.push (seqObj "list" #[] 0)).update s.heap.objs.size (Obj.mapSeq (· ++ vs.toArray)) }) (hsz:vs.length≤sizeLine) :
    wpAny (model prog w) A (collect (.ref l)) Q E s:=by
  unfold collect
  refine wpAny_bind (wpAny_runValue (codeAny_builtin entry_proto_collect' ?_))
  show wpAny _ _ (do again (.builtin "list.__iadd__" ⟨[← newList [],.ref l],[]⟩)) _ _ s
  refine wpAny_bind (wpAny_newList (wpAny_pure ⟨Code.quiet_builtin _ (by decide +kernel),codeAny_builtin entry_list_iadd' ?_⟩))
  show wpAny _ _ (Builtin.List.listExtendWith (.ref s.heap.objs.size) (.ref l) (.ref s.heap.objs.size)) _ _ { s with heap:=s.heap.push (seqObj "list" #[] 0) }
  unfold Builtin.List.listExtendWith
  have ho':(s.heap.push (seqObj "list" #[] 0)).get? l=some o:=Heap.get?_push_of_some _ ho
  refine wpAny_bind (wpAny_typeOf (T:=c) ⟨o,ho',hc⟩ ?_)
  rw [if_pos (by rcases hcc with rfl | rfl <;> simp)]
  refine wpAny_bind (listItems_at ho' hd ?_)
  refine wpAny_bind (listItems_at (xs:=#[]) (n:=0) (Heap.get?_push_size _ rfl) rfl ?_)
  rw [if_neg (by simp)]
  refine wpAny_bind (listUpdate_at (xs:=#[]) (n:=0) (Heap.get?_push_size _ rfl) rfl ?_ (Nat.zero_le _) (by show (#[]++vs.toArray).size≤sizeLine+1; simp only [Array.size_append,List.size_toArray,List.length_nil]; omega))
  refine wpAny_pure ?_
  show wpAny (model prog w) A (do
      let o ← load s.heap.objs.size
      match o.data with
      | .seq xs _=>pure xs.toList
      | _=>unsupported "internal:collect") Q E { s with heap:=(s.heap.push (seqObj "list" #[] 0)).update s.heap.objs.size (Obj.mapSeq (· ++ vs.toArray)) }
  refine wpAny_bind (wpAny_load (get?_update_seq (Heap.get?_push_size _ rfl) _) ?_)
  show wpAny _ _ (pure ((#[]:Array Value)++vs.toArray).toList) Q E _
  rw [show ((#[]:Array Value)++vs.toArray).toList=vs by simp]
  exact wpAny_pure h
theorem katlex {b fin:Bool} {Q:Bool→Shared→Prop} {e f:Nat→Bool}:∀ (l:List (Value × Value)) (i:Nat),(∀ j p q,l[j]?=some (p,q)→SeqAt.EqAt A s p q (e (i+j))) →
    (∀ j p q,l[j]?=some (p,q)→e (i+j)=false→∀ (Q:Bool→Shared→Prop) (E:Value→Shared→Prop),Q (f (i+j)) s→wpAny (model prog w) A (oneLt' (b && (i+j) == 0) p q) Q E s) →
    Q (SeqAt.lexR e f fin (List.range' i l.length)) s→KatLex prog w A b fin Q l i s
  | [],i,_,_,h=>kat_nil h
  | (p,q) :: l,i,he,hf,h=>by
    refine kat_cons ((he 0 p q rfl) prog w _ _ ?_)
    rw [Nat.add_zero]
    have h':Q (if e i=true then SeqAt.lexR e f fin (List.range' (i+1) l.length) else f i) s:=h
    cases hy:e i with
    | true =>
      rw [hy,if_pos rfl] at h'
      exact kat_yes (katlex l (i+1) (fun j p q z=>by rw [show i+1+j=i+(j+1) by omega]; exact he (j+1) p q (by simpa using z)) (fun j p q z=>by rw [show i+1+j=i+(j+1) by omega]; exact hf (j+1) p q (by simpa using z)) h')
    | false =>
      rw [hy,if_neg (by simp)] at h'
      exact kat_no (by have:=hf 0 p q rfl (by simpa using hy) Q (fun _ _=>False) (by simpa using h'); simpa using this)
end
end SO
namespace L2
open PySem PySem.Spec PyProof.Rows
open SeqAt (lexR)
def Hom (ds:List D):Prop:=(∀ a∈ds,∀ b∈ds,Sim a b)∧((∀ d∈ds,∃ i,d=.int i)∨(∀ d∈ds,∃ x,d=.str x)∨(∀ d∈ds,∃ e r,d=.tup (e :: r)))
def rSortD (K:PySem.W.Frag):List V→Hp→VK→Prop:=fun xs H Q=>∃ (p:Addr) (vs:List V) (ds:List D),xs=[.ref p]∧(SqL K H p vs∨SqT K H p vs)∧DenL H vs ds∧Hom ds∧ds.length < 64∧(∀ d∈ds,Shal 50 d) ∧
  ∀ (l:Addr) (us:List V) (ds':List D),H l=none→ds'.Perm ds→UpD ds'→DenL H us ds'→Q (.ref l) (upd H l (.lst us))
theorem denL_map {H:Hp} {vs:List V} {ds:List D} (h:DenL H vs ds):∀ l:List Nat,(∀ i∈l,i < ds.length)→DenL H (l.map fun i=>vs.getD i .non) (l.map fun i=>ds.getD i .non)
  | [],_=>trivial
  | i :: l,hl=>by
    refine ⟨?_,denL_map h l fun j hj=>hl j (.tail _ hj)⟩
    have hi:i < vs.length:=by rw [h.len]; exact hl i (.head _)
    obtain ⟨d,hd,r⟩:=h.at_ (List.getElem?_eq_getElem hi)
    dsimp only
    rw [List.getD_eq_getElem?_getD,List.getD_eq_getElem?_getD,hd,List.getElem?_eq_getElem hi]
    exact r
theorem vals_map {vs:List V} {its:List Value} (h:Vals vs its):∀ l:List Nat,(∀ i∈l,i < vs.length)→Vals (l.map fun i=>vs.getD i .non) (l.map fun i=>its.getD i Value.none)
  | [],_=>.nil
  | i :: l,hl=>by
    refine .cons ?_ (vals_map h l fun j hj=>hl j (.tail _ hj))
    have hi:i < vs.length:=hl i (.head _)
    obtain ⟨d,hd,r⟩:=h.get (List.getElem?_eq_getElem hi)
    dsimp only
    rw [List.getD_eq_getElem?_getD,List.getD_eq_getElem?_getD,hd,List.getElem?_eq_getElem hi]
    exact r
section
variable {X:Cx} {pins:List (Addr × Obj)} {σ:St} {H:Hp} {s:Shared}
theorem at3 {vs:List V} {ds:List D} {its:List Value} (hd:DenL H vs ds) (r:Vals vs its) {i:Nat} (hi:i < ds.length):∃ (x:V) (v:Value),vs[i]?=some x∧its[i]?=some v∧its.getD i Value.none=v∧Den H x (ds.getD i .non)∧RelV x v∧ds.getD i .non∈ds:=by
  have hv:i < vs.length:=by rw [hd.len]; exact hi
  obtain ⟨d,g,b⟩:=hd.at_ (List.getElem?_eq_getElem hv)
  obtain ⟨u,hu,ru⟩:=r.get (List.getElem?_eq_getElem hv)
  have e:ds.getD i .non=d:=by rw [List.getD_eq_getElem?_getD,g]; rfl
  rw [e]
  exact ⟨_,u,List.getElem?_eq_getElem hv,hu,by rw [List.getD_eq_getElem?_getD,hu]; rfl,b,ru,List.mem_of_getElem? g⟩
theorem one_false {s':Shared} {prog:Program} {w:World} {A:Around} {v u:Value} {b:Bool} (h:SeqAt.LtAt A s' v u b) (Q:Bool→Shared→Prop) (E:Value→Shared→Prop) (q:Q b s'):wpAny (model prog w) A (oneLt' false v u) Q E s' :=
  PySem.W.kat_one v u (h prog w E _ q)
theorem one_true {s':Shared} {prog:Program} {w:World} {A:Around} {x y:V} {d e:D} {v u:Value} (hm:Sim d e) (hd:Den H x d) (he:Den H y e) (rx:RelV x v) (ry:RelV y u) (nt:∀ ds,d≠.tup ds) (Q:Bool→Shared→Prop) (E:Value→Shared→Prop) (q:Q (dlt d e) s') :
    wpAny (model prog w) A (oneLt' true v u) Q E s':=by
  revert hd he nt q
  refine sim_cases (P:=fun d e=>Den H x d→Den H y e→(∀ ds,d≠.tup ds)→Q (dlt d e) s'→wpAny (model prog w) A (oneLt' true v u) Q E s') ?_ ?_ ?_ hm
  · intro i j hx hy _ q
    have e1:x=.int i:=hx
    have e2:y=.int j:=hy
    subst e1
    subst e2
    obtain ⟨t,rfl⟩:=rx
    obtain ⟨t',rfl⟩:=ry
    rw [dlt_int] at q
    exact oneLt_int q
  · intro i j hx hy _ q
    have e1:x=.str i:=hx
    have e2:y=.str j:=hy
    subst e1
    subst e2
    obtain ⟨t,rfl⟩:=rx
    obtain ⟨t',rfl⟩:=ry
    rw [dlt_str] at q
    exact oneLt_str q
  · intro xs ys _ _ _ nt _
    exact absurd rfl (nt xs)
theorem looks_of {M:Model} {x:V} {v:Value} {d:D} (I:Inv X pins σ H s) {h':Heap} (kp:SO.Keeps s.heap h') (hd:Den H x d) (rx:RelV x v):(∀ i,d=.int i→PySem.W.Looks M h' (typeOf v) (.type "int"))∧(∀ i,d=.str i→PySem.W.Looks M h' (typeOf v) (.type "str")) ∧
    (∀ ds,d=.tup ds→PySem.W.Looks M h' (typeOf v) (.type "tuple")):=by
  refine ⟨fun i e=>?_,fun i e=>?_,fun ds e=>?_⟩
  · subst e
    have e1:x=.int i:=hd
    subst e1
    obtain ⟨t,rfl⟩:=rx
    exact PySem.W.Looks.of_pure rfl
  · subst e
    have e1:x=.str i:=hd
    subst e1
    obtain ⟨t,rfl⟩:=rx
    exact PySem.W.Looks.of_pure rfl
  · subst e
    obtain ⟨a,vs,rfl,ha,hda⟩:=den_tup hd
    cases rx
    obtain ⟨its,r1,⟨o,eo,ec,_⟩,_⟩:=I.tuple (SqT.of (K:=X.K) ha)
    rw [← ec]
    exact (PySem.W.Looks.ld (kp _ _ eo)).andThen .now
def tyD:D→Value
  | .int _=>.type "int"
  | .str _=>.type "str"
  | _=>.type "tuple"
theorem tyD_sim {d e:D} (h:Sim d e):tyD d=tyD e:=sim_cases (P:=fun d e=>tyD d=tyD e) (fun _ _=>rfl) (fun _ _=>rfl) (fun _ _ _=>rfl) h
theorem tyD_self (d:D):(tyD d == tyD d)=true:=by cases d <;> rfl
theorem tyD_tup {d e:D} (hm:Sim d e) (h:(tyD d != .type "tuple")=true):∀ ds,d≠.tup ds:=by
  intro ds z
  subst z
  exact absurd (show (Value.type "tuple" != Value.type "tuple")=true from h) (by decide)
theorem looks_ty {M:Model} {x:V} {v:Value} {d e:D} (I:Inv X pins σ H s) {h':Heap} (kp:SO.Keeps s.heap h') (hm:Sim d e) (hd:Den H x d) (rx:RelV x v):PySem.W.Looks M h' (typeOf v) (tyD d):=by
  obtain ⟨a,b,c⟩:=looks_of (M:=M) I kp hd rx
  revert a b c
  exact sim_cases (P:=fun d e=>(∀ i,d=.int i→PySem.W.Looks M h' (typeOf v) (.type "int"))→(∀ i,d=.str i→PySem.W.Looks M h' (typeOf v) (.type "str"))→(∀ ds,d=.tup ds→PySem.W.Looks M h' (typeOf v) (.type "tuple"))→PySem.W.Looks M h' (typeOf v) (tyD d))
    (fun i _ a _ _=>a i rfl) (fun i _ _ b _=>b i rfl) (fun xs _ _ _ _ c=>c xs rfl) hm
theorem kat_tups (I:Inv X pins σ H s) {h':Heap} (kp:SO.Keeps s.heap h'):∀ {vs:List V} {ds:List D} {its:List Value},DenL H vs ds→Vals vs its→(∀ d∈ds,∃ e r,d=.tup (e :: r)) →
    ∃ fs,PySem.W.KatTups h' its fs∧fs.length=its.length∧∀ v∈fs,∃ (x:V) (d:D) (r:List D),Den H x d∧RelV x v∧D.tup (d :: r)∈ds
  | [],[],_,_,.nil,_=>⟨[],trivial,rfl,fun v hv=>by cases hv⟩
  | x :: vs,d :: ds,_,hd,.cons r rr,ht=>by
    obtain ⟨fs,k,l,m⟩:=kat_tups I kp hd.2 rr fun d hd=>ht d (.tail _ hd)
    obtain ⟨e,r0,rfl⟩:=ht d (.head _)
    obtain ⟨a,ws,rfl,ha,hda⟩:=den_tup hd.1
    cases r
    obtain ⟨its1,r1,⟨o,eo,ec,n,ed⟩,_⟩:=I.tuple (SqT.of (K:=X.K) ha)
    match ws,its1,hda,r1,ed with
    | w0 :: ws,_ :: its1,hda,.cons q0 q,ed =>
      refine ⟨_ :: fs,PySem.W.KatTups.cons (kp _ _ eo) ec ed (by simp; rfl) k,by simp [l],fun v hv=>?_⟩
      rcases List.mem_cons.mp hv with rfl | hv
      · exact ⟨w0,e,r0,hda.1,q0,.head _⟩
      · obtain ⟨x,d,r,z1,z2,z3⟩:=m v hv
        exact ⟨x,d,r,z1,z2,.tail _ z3⟩
    | [],_,hda,_,_=>exact hda.elim
theorem sortD_with {E:Value→Shared→Prop} (I:Inv X pins σ H s) {a:Addr} {c:String} {o:Obj} {n:Nat} {vs:List V} {ds:List D} {its:List Value} {Q:VK} (κ:SortKind) (ho:s.heap.get? a=some o) (hc:o.cls=.type c) (hcc:c = "list"∨c = "tuple") (hd:o.data=.seq its.toArray n)
    (hD:DenL H vs ds) (r:Vals vs its) (h64:ds.length < 64)
    (hk:2≤its.length→∀ h',SO.Keeps s.heap h'→∀ (E:Value→Shared→Prop) (Q:SortKind→Shared→Prop),Q κ { s with heap:=h' }→wpAny (model X.prog X.w) X.A.in1.in1 (keyKind' its.toArray) Q E { s with heap:=h' })
    (hcm:∀ h',SO.Keeps s.heap h'→SO.Cmp (O:=ordD) (fun i=>ds.getD i .non) its.length (PySem.W.kas_ask X.prog X.w X.A.in1.in1 κ its) { s with heap:=h' })
    (q:∀ (l:Addr) (us:List V) (ds':List D),H l=none→ds'.Perm ds→UpD ds'→DenL H us ds'→Q (.ref l) (upd H l (.lst us))):wpAny (model X.prog X.w) X.A (call (.builtin "sorted") [.ref a]) (EP X pins σ Q) E s:=by
  have l1:=hD.len
  have l2:=r.length
  have kg:SO.Keeps s.heap ((s.heap.push (seqObj "list" #[] 0)).update s.heap.objs.size (Obj.mapSeq (· ++ its.toArray))):=fun b u e=>by
    rw [Heap.get?_update_ne _ _ _ _ (Nat.ne_of_lt (Heap.lt_size e))]
    exact Heap.get?_push_of_some _ e
  refine SO.sorted_of (O:=ordD) (vs:=its) (fun i=>ds.getD i .non) κ (by omega) kg (fun Q q=>SO.collect_seq ho hc hcc hd q (by rw [sizeLine_eq]; omega)) hk hcm fun g' p kp hp hs hob=>?_
  obtain ⟨m,hob⟩:=hob
  have hlt:∀ i∈p.toList,i < its.length:=fun i hi=>List.mem_range.mp (hp.mem_iff.mp hi)
  have hsz:s.heap.objs.size≤((s.heap.push (seqObj "list" #[] 0)).update s.heap.objs.size (Obj.mapSeq (· ++ its.toArray))).objs.size:=by
    rw [Heap.size_update,size_push']
    exact Nat.le_succ _
  have hps:p.toList.length=its.length:=by simpa using hp.length_eq
  have hU:=vals_map r p.toList fun i hi=>by rw [l2]; exact hlt i hi
  refine ⟨.ref _,_,I.laid (t':=s.toks) (o:=.lst (p.toList.map fun i=>vs.getD i .non)) kp hsz ⟨?_,_,m,hU,hob⟩,rfl,q _ _ (p.toList.map fun i=>ds.getD i .non) (I.hok.fresh hsz) ?_ ?_ (denL_map hD _ fun i hi=>by have:=hlt i hi; omega)⟩
  · rw [List.length_map,sizeLine_eq]
    omega
  · have e:(List.range its.length).map (fun i=>ds.getD i .non)=ds:=by
      apply List.ext_getElem
      · simp; omega
      · intro i h1 h2
        simp [List.getD_eq_getElem?_getD,h2]
    have:=hp.map fun i=>ds.getD i D.non
    rw [e] at this
    exact this
  · unfold UpD
    rw [List.pairwise_iff_getElem]
    intro i j hi hj hij
    have h:=hs i j (Nat.le_of_lt hij) (by simpa [hps] using hj)
    have e:∀ k (hk:k < p.toList.length),SO.KN (O:=ordD) (fun i=>ds.getD i .non) p k=(p.toList.map fun i=>ds.getD i D.non)[k]'(by rw [List.length_map]; exact hk):=by
      intro k hk
      have hk':k < p.size:=by simpa using hk
      unfold SO.KN
      rw [List.getElem_map]
      congr 1
      simp [Array.getD,hk']
    rw [e i (by simpa using hi),e j (by simpa using hj)] at h
    exact h
theorem call_sortedD (hu:X.A.units+64 < cLine):CallR X (.builtin "sorted") (rSortD X.K):=by
  intro pins s σ H xs us Q I r h
  obtain ⟨a,vs,ds,rfl,hp,hD,hom,h64,hsh,q⟩:=h
  obtain ⟨u,rfl,rx⟩:=vals1 r
  cases rx
  obtain ⟨its,rv,c,o,n,hcc,ho,hc,hd⟩:∃ its:List Value,Vals vs its∧∃ (c:String) (o:Obj) (n:Nat),(c = "list"∨c = "tuple")∧s.heap.get? a=some o∧o.cls=.type c∧o.data=.seq its.toArray n:=by
    rcases hp with hp | hp
    · obtain ⟨its,rv,pl,_⟩:=I.list hp
      obtain ⟨o,ho,hc,n,hd⟩:=pl.isList
      exact ⟨its,rv, "list",o,n,.inl rfl,ho,hc,hd⟩
    · obtain ⟨its,rv,⟨o,ho,hc,n,hd⟩,_⟩:=I.tuple hp
      exact ⟨its,rv, "tuple",o,n,.inr rfl,ho,hc,hd⟩
  have l1:=hD.len
  have l2:=rv.length
  have one:(∀ d∈ds,∀ xs,d≠.tup xs)→∀ T,(T != Value.type "tuple")=true→(T == T)=true→(∀ d∈ds,tyD d=T)→wpAny (model X.prog X.w) X.A (call (.builtin "sorted") [.ref a]) (EP X pins σ Q) X.xe s:=by
    intro nt T hT1 hT2 hT
    refine sortD_with I oneType' ho hc hcc hd hD rv h64 (fun h2 h' kp E Q q=>?_) (fun h' kp i j C hi hj q=>?_) q
    · refine PySem.W.kas_kind h2 (T:=T) (fun v hv=>?_) hT1 hT2 q
      obtain ⟨i,hi,rfl⟩:=List.mem_iff_getElem.mp hv
      obtain ⟨x,v,e1,e2,e3,e4,e5,e6⟩:=at3 (i:=i) hD rv (by omega)
      rw [List.getElem?_eq_getElem hi] at e2
      cases e2
      rw [← hT _ e6]
      exact looks_ty I kp (hom.1 _ e6 _ e6) e4 e5
    · obtain ⟨x,v,e1,e2,e3,e4,e5,e6⟩:=at3 (i:=i) hD rv (by omega)
      obtain ⟨y,u,f1,f2,f3,f4,f5,f6⟩:=at3 (i:=j) hD rv (by omega)
      unfold PySem.W.kas_ask
      rw [e3,f3,keyLt'_oneType]
      exact one_true (hom.1 _ e6 _ f6) e4 f4 e5 f5 (nt _ e6) _ _ q
  rcases hom.2 with hi | hi | hi
  · exact one (fun d hd xs e=>by obtain ⟨i,z⟩:=hi d hd; rw [z] at e; cases e) (.type "int") (by decide) (by rfl) (fun d hd=>by obtain ⟨i,z⟩:=hi d hd; rw [z]; rfl)
  · exact one (fun d hd xs e=>by obtain ⟨i,z⟩:=hi d hd; rw [z] at e; cases e) (.type "str") (by decide) (by rfl) (fun d hd=>by obtain ⟨i,z⟩:=hi d hd; rw [z]; rfl)
  · obtain ⟨T,hT2,hT⟩:∃ T:Value,(T == T)=true∧∀ d r,D.tup (d :: r)∈ds→tyD d=T∧Sim d d:=by
      cases hds:ds with
      | nil=>exact ⟨.type "int",by rfl,fun d r z=>by cases z⟩
      | cons d0 ds0 =>
        obtain ⟨e0,r0,rfl⟩:=hi d0 (by rw [hds]; exact .head _)
        refine ⟨tyD e0,tyD_self e0,fun d r z=>?_⟩
        have s1:=hom.1 _ (show D.tup (d :: r)∈ds by rw [hds]; exact z) (.tup (e0 :: r0)) (by rw [hds]; exact .head _)
        have s2:=hom.1 _ (show D.tup (d :: r)∈ds by rw [hds]; exact z) (.tup (d :: r)) (by rw [hds]; exact z)
        replace s1:=SimL_c' (Sim_t' s1)
        replace s2:=SimL_c' (Sim_t' s2)
        exact ⟨tyD_sim s1.1,s2.1⟩
    refine sortD_with I (tuples' (T != Value.type "tuple")) ho hc hcc hd hD rv h64 (fun h2 h' kp E Q q=>?_) (fun h' kp i j C hi' hj q=>?_) q
    · obtain ⟨fs,k,l,m⟩:=kat_tups I kp hD rv hi
      refine PySem.W.kat_kind k (by omega) (T:=T) (fun v hv=>?_) hT2 q
      obtain ⟨x,d,r,z1,z2,z3⟩:=m v hv
      obtain ⟨t1,t2⟩:=hT d r z3
      rw [← t1]
      exact looks_ty I kp t2 z1 z2
    · obtain ⟨x,v,e1,e2,e3,e4,e5,e6⟩:=at3 (i:=i) hD rv (by omega)
      obtain ⟨y,u,f1,f2,f3,f4,f5,f6⟩:=at3 (i:=j) hD rv (by omega)
      unfold PySem.W.kas_ask
      rw [e3,f3]
      have hq:C (dlt (ds.getD i .non) (ds.getD j .non)) { s with heap:=h' }:=q
      obtain ⟨d1,r1,E1⟩:=hi _ e6
      obtain ⟨d2,r2,E2⟩:=hi _ f6
      have sh1:=hsh _ e6
      have sh2:=hsh _ f6
      have sm:=hom.1 _ e6 _ f6
      rw [E1] at e4 e6 hq sh1 sm
      rw [E2] at f4 f6 hq sh2 sm
      obtain ⟨a1,w1,rfl,ha1,hda1⟩:=den_tup e4
      obtain ⟨a2,w2,rfl,ha2,hda2⟩:=den_tup f4
      cases e5
      cases f5
      obtain ⟨its1,v1,⟨o1,eo1,ec1,n1,ed1⟩,_⟩:=I.tuple (SqT.of (K:=X.K) ha1)
      obtain ⟨its2,v2,⟨o2,eo2,ec2,n2,ed2⟩,_⟩:=I.tuple (SqT.of (K:=X.K) ha2)
      have k1:=hda1.len
      have k2:=hda2.len
      have k3:=v1.length
      have k4:=v2.length
      replace sm:=Sim_t' sm
      have cm:=cmpD I (s':={ s with heap:=h' }) kp 49
      have each:∀ (k:Nat) (p q:Value),(its1.zip its2)[k]?=some (p,q)→∃ (x y:V),Den H x ((d1 :: r1).getD k .non)∧Den H y ((d2 :: r2).getD k .non)∧RelV x p∧RelV y q∧Sim ((d1 :: r1).getD k .non) ((d2 :: r2).getD k .non)∧Shal 49 ((d1 :: r1).getD k .non)∧Shal 49 ((d2 :: r2).getD k .non):=by
        intro k p q hz
        rw [List.getElem?_zip_eq_some] at hz
        have b1:k < its1.length:=(List.getElem?_eq_some_iff.mp hz.1).1
        have b2:k < its2.length:=(List.getElem?_eq_some_iff.mp hz.2).1
        obtain ⟨x1,p1,_,g1,_,g2,g3,g4⟩:=at3 (i:=k) hda1 v1 (by omega)
        obtain ⟨x2,p2,_,g1',_,g2',g3',g4'⟩:=at3 (i:=k) hda2 v2 (by omega)
        rw [hz.1] at g1
        rw [hz.2] at g1'
        cases g1
        cases g1'
        refine ⟨x1,x2,g2,g2',g3,g3',sm.at_ (i:=k) ?_ ?_,(sh1.2 _ rfl).2 _ g4,(sh2.2 _ rfl).2 _ g4'⟩
        · rw [List.getD_eq_getElem?_getD,List.getElem?_eq_getElem (by omega)]; rfl
        · rw [List.getD_eq_getElem?_getD,List.getElem?_eq_getElem (by omega)]; rfl
      refine PySem.W.kat_lt (kp _ _ eo1) ed1 (kp _ _ eo2) ed2 (SO.katlex (e:=fun k=>eqD ((d1 :: r1).getD k .non) ((d2 :: r2).getD k .non)) (f:=fun k=>dlt ((d1 :: r1).getD k .non) ((d2 :: r2).getD k .non)) _ 0 (fun k p q z=>?_) (fun k p q z _ Q E hq=>?_) ?_)
      · obtain ⟨x,y,h1,h2,h3,h4,h5,h6,h7⟩:=each k p q z
        rw [Nat.zero_add]
        exact (cm _ _ _ _ _ _ _ h6 h7 h5 h1 h2 h3 h4 (by simp only [Around.in1]; omega)).1
      · obtain ⟨x,y,h1,h2,h3,h4,h5,h6,h7⟩:=each k p q z
        rw [Nat.zero_add] at hq ⊢
        have lt:=(cm _ _ X.A.in1.in1 _ _ _ _ h6 h7 h5 h1 h2 h3 h4 (by simp only [Around.in1]; omega)).2
        cases hb:(T != Value.type "tuple") && k == 0 with
        | false=>exact one_false lt Q E hq
        | true =>
          rw [Bool.and_eq_true,beq_iff_eq] at hb
          obtain ⟨hb,rfl⟩:=hb
          have t1:=hT d1 r1 e6
          exact one_true h5 h1 h2 h3 h4 (show ∀ ds,d1≠.tup ds from tyD_tup t1.2 (by rw [t1.1]; exact hb)) Q E hq
      · have hl:=lexR_dlt (d1 :: r1) (d2 :: r2)
        have e:List.range' 0 (its1.toArray.toList.zip its2.toArray.toList).length=List.range (min (d1 :: r1).length (d2 :: r2).length):=by
          rw [List.range_eq_range']
          congr 1
          simp only [List.length_zip]
          omega
        have ef:decide (its1.toArray.size < its2.toArray.size)=decide ((d1 :: r1).length < (d2 :: r2).length):=by
          rw [show its1.toArray.size=(d1 :: r1).length by simp at k1 k3 ⊢; omega,show its2.toArray.size=(d2 :: r2).length by simp at k2 k4 ⊢; omega]
        rw [e,ef,hl]
        rw [dlt_tt] at hq
        exact hq
end
end L2
namespace PySem.SeqAt
open AutoSeq1 (wpAny_loadPart')
open MeetsSeq MeetsSeq2 MeetsSeq3 SeqRoads2
end PySem.SeqAt
namespace L2
open PySem PySem.Spec PyProof.Rows
end L2
namespace L2
open PySem PySem.Spec PyProof.Rows
theorem foldl_repN (t:List Nat):∀ (k:Nat) (acc:List Nat),List.foldl (fun x1 x2=>x1++x2) acc.toArray (List.replicate k t.toArray)=(acc++(List.replicate k t).flatten).toArray
  | 0,acc=>by simp
  | k+1,acc=>by
    have e:acc.toArray++t.toArray=(acc++t).toArray:=by simp
    have e2:(acc++t)++(List.replicate k t).flatten=acc++(List.replicate (k+1) t).flatten:=by
      rw [List.replicate_succ,List.flatten_cons,List.append_assoc]
    rw [← e2,← foldl_repN t k (acc++t),← e,List.replicate_succ,List.foldl_cons]
theorem rep_nil (n:Nat):(List.replicate n ([]:List Nat)).flatten=[]:=by
  induction n with
  | zero=>rfl
  | succ n ih=>rw [List.replicate_succ,List.flatten_cons,ih]; rfl
theorem mul_rep (t:List Nat) (n:Nat):Txt.mul ⟨t.toArray⟩ (n:Int)=⟨(List.replicate n t).flatten.toArray⟩:=by
  unfold Txt.mul
  by_cases h1:(n:Int) < 1
  · rw [if_pos h1]
    have:n=0:=by omega
    subst this
    rfl
  · rw [if_neg h1]
    by_cases h2:(((n:Int) == 1 || (⟨t.toArray⟩:Str).length == 0)=true)
    · rw [if_pos h2]
      rw [Bool.or_eq_true,beq_iff_eq,beq_iff_eq] at h2
      rcases h2 with z | z
      · have:n=1:=by omega
        subst this
        simp
      · have z':t=[]:=by
          have:t.toArray.size=0:=z
          simpa using this
        subst z'
        rw [rep_nil]
    · rw [if_neg h2]
      have:=foldl_repN t n []
      simp only [List.nil_append] at this
      rw [← this]
      simp
def rMulS:R2:=fun x y H Q=>∃ (t:List Nat) (n:Nat),x=.str ⟨t.toArray⟩∧y=.int (n:Nat)∧n≤100000∧t.length * n≤100000∧Q (.str ⟨(List.replicate n t).flatten.toArray⟩) H
theorem op_mulS {X:Cx}:OpR X (binaryOp .Mult) rMulS:=by
  intro pins s σ H x y v u Q I rx ry h
  obtain ⟨t,n,rfl,rfl,hn,hl,q⟩:=h
  obtain ⟨t',rfl⟩:=rx
  obtain ⟨t'',rfl⟩:=ry
  have hlen:(⟨t.toArray⟩:Str).length=t.length:=by show t.toArray.size=_; simp
  refine SB.mul ⟨?_,fun h1 _=>?_,fun h1 _=>?_⟩ fun t3 k=>?_
  · simp only [Bool.or_eq_false_iff,decide_eq_false_iff_not]
    omega
  · rw [hlen]
    intro z
    have h0:0 < n:=by omega
    have z2:((2:Int) ^ 63 - 1) / (n:Int) < (t.length:Int):=z
    rw [Int.ediv_lt_iff_lt_mul (by omega)] at z2
    have e:((t.length:Int) * (n:Int))=((t.length * n:Nat):Int):=by push_cast; rfl
    rw [e] at z2
    omega
  · rw [hlen,Int.toNat_natCast]
    unfold Builtin.Str.tooLong
    exact decide_eq_false (by have:=sizeLine_big; omega)
  · rw [mul_rep]
    exact ⟨.str _,H,I.tok _,⟨_,rfl⟩,q⟩
end L2
namespace L2
open PySem
def ltr (t i:Nat):Nat:=97+(t+i) % 26
def nm0 (t k:Nat):List Nat:=ltr t (k % 26) :: List.replicate (k % 7) (ltr t (k / 26))
def nm1 (t k:Nat):List Nat:=List.replicate (1+k % 8) (ltr t (k / 8))
def nm2 (t a k:Nat):List Nat:=List.replicate a (ltr t 25)++ltr t (k % 20) :: ltr t (k / 20) :: List.replicate (6 - a) (ltr t 25)
theorem ltr_inj {t i j:Nat} (hi:i < 26) (hj:j < 26) (h:ltr t i=ltr t j):i=j:=by
  unfold ltr at h
  omega
theorem nm0_inj {t i j:Nat} (hi:i < 70) (hj:j < 70) (h:nm0 t i=nm0 t j):i=j:=by
  have hl:=congrArg List.length h
  unfold nm0 at h hl
  rw [List.length_cons,List.length_cons,List.length_replicate,List.length_replicate] at hl
  have:=ltr_inj (Nat.mod_lt _ (by decide)) (Nat.mod_lt _ (by decide)) (List.cons.inj h).1
  omega
theorem nm1_inj {t i j:Nat} (hi:i < 70) (hj:j < 70) (h:nm1 t i=nm1 t j):i=j:=by
  have hl:=congrArg List.length h
  have h0:=congrArg (fun x=>x[0]?) h
  unfold nm1 at h0 hl
  rw [List.length_replicate,List.length_replicate] at hl
  simp only [List.getElem?_replicate] at h0
  rw [if_pos (by omega),if_pos (by omega)] at h0
  have:=ltr_inj (by omega) (by omega) (Option.some.inj h0)
  omega
theorem nm2_inj {t a i j:Nat} (hi:i < 70) (hj:j < 70) (h:nm2 t a i=nm2 t a j):i=j:=by
  unfold nm2 at h
  have h':=List.append_cancel_left h
  have h1:=(List.cons.inj h').1
  have h2:=(List.cons.inj (List.cons.inj h').2).1
  have:=ltr_inj (by omega) (by omega) h1
  have:=ltr_inj (by omega) (by omega) h2
  omega
theorem nodup_map_range {f:Nat→List Nat} {n:Nat} (h:∀ i j,i < n→j < n→f i=f j→i=j):((List.range n).map f).Nodup:=by
  rw [List.nodup_iff_pairwise_ne,List.pairwise_map]
  refine (List.pairwise_lt_range (n:=n)).imp_of_mem fun {a b} ha hb hab e=>?_
  have:=h a b (List.mem_range.mp ha) (List.mem_range.mp hb) e
  omega
theorem isNm_of {x:List Nat} (h1:1≤x.length) (h2:x.length≤8) (h:∀ c∈x,97≤c∧c≤122):isNm ⟨x.toArray⟩=true:=by
  unfold isNm
  have hl:(⟨x.toArray⟩:Str).length=x.length:=by show x.toArray.size=_; simp
  rw [hl,decide_eq_true h1,decide_eq_true h2]
  simp only [Bool.true_and,List.all_eq_true]
  intro c hc
  exact decide_eq_true (h c (by simpa using hc))
theorem ltr_ok (t i:Nat):97≤ltr t i∧ltr t i≤122:=by
  unfold ltr
  omega
theorem nm0_ok (t k:Nat):isNm ⟨(nm0 t k).toArray⟩=true:=by
  refine isNm_of (by simp [nm0]) (by simp [nm0]; omega) fun c hc=>?_
  rcases List.mem_cons.mp hc with rfl | hc
  · exact ltr_ok _ _
  · rw [(List.mem_replicate.mp hc).2]
    exact ltr_ok _ _
theorem nm1_ok (t k:Nat):isNm ⟨(nm1 t k).toArray⟩=true:=by
  refine isNm_of (by simp [nm1]) (by simp [nm1]; omega) fun c hc=>?_
  rw [(List.mem_replicate.mp hc).2]
  exact ltr_ok _ _
theorem nm2_ok {t a:Nat} (k:Nat) (ha:a≤6):isNm ⟨(nm2 t a k).toArray⟩=true:=by
  refine isNm_of (by simp [nm2]; omega) (by simp [nm2]; omega) fun c hc=>?_
  unfold nm2 at hc
  rcases List.mem_append.mp hc with hc | hc
  · rw [(List.mem_replicate.mp hc).2]
    exact ltr_ok _ _
  rcases List.mem_cons.mp hc with rfl | hc
  · exact ltr_ok _ _
  rcases List.mem_cons.mp hc with rfl | hc
  · exact ltr_ok _ _
  rw [(List.mem_replicate.mp hc).2]
  exact ltr_ok _ _
structure Row70 (xs:List (List Nat)):Prop where
  len:xs.length=70
  nd:xs.Nodup
  nm:∀ x∈xs,isNm ⟨x.toArray⟩=true
theorem row70 {f:Nat→List Nat} (h1:∀ i j,i < 70→j < 70→f i=f j→i=j) (h2:∀ k,isNm ⟨(f k).toArray⟩=true):Row70 ((List.range 70).map f) :=
  ⟨by simp,nodup_map_range h1,fun x hx=>by obtain ⟨k,_,rfl⟩:=List.mem_map.mp hx; exact h2 k⟩
theorem row0 (t:Nat):Row70 ((List.range 70).map (nm0 t)):=row70 (fun _ _ hi hj=>nm0_inj hi hj) (nm0_ok t)
theorem row1 (t:Nat):Row70 ((List.range 70).map (nm1 t)):=row70 (fun _ _ hi hj=>nm1_inj hi hj) (nm1_ok t)
theorem row2 {t a:Nat} (ha:a≤6):Row70 ((List.range 70).map (nm2 t a)):=row70 (fun _ _ hi hj=>nm2_inj hi hj) (fun k=>nm2_ok k ha)
theorem turned_at {t i:Nat} (ht:t < 26) (hi:i < 26):((List.range 26).map (97 + ·)).drop t++((List.range 26).map (97 + ·)).take t=(List.range 26).map (ltr t):=by
  apply List.ext_getElem
  · simp; omega
  · intro n h1 h2
    simp only [List.length_append,List.length_drop,List.length_take,List.length_map,List.length_range] at h1 h2
    rw [List.getElem_append]
    split
    · simp [ltr]
      simp at *
      omega
    · simp [ltr]
      simp at *
      omega
end L2
namespace L2
open PySem PySem.Spec PyProof.Rows
theorem noFree {sc:Scope} {ns:List (Str × NameKind)} (h:∀ y∈ns,y.2≠.free):∀ y∈ns,y.2=.free→sc.names.lookup y.1=some .cell∨sc.names.lookup y.1=some .free:=fun y hy hf=>absurd hf (h y hy)
theorem pi_tupK {X:Cx} {K:PySem.W.Frag} {tg l:Expr} {tl:TE} (hK:X.K=K) (hl:PE X l tl):PI X tg l (iTup K tl):=by subst hK; exact pi_tup hl
end L2
namespace L2
open PySem PySem.Spec PyProof.Rows
def KTup (K:PySem.W.Frag) (a:Addr) (xs:List V):Prop:=∃ (o:Obj) (its:Array Value) (n:Nat),K.lookup a=some o∧o.cls=.type "tuple"∧o.data=.seq its n∧its.size≤sizeLine∧Vals xs its.toList
theorem KTup.sq {K:PySem.W.Frag} {a:Addr} {xs:List V} {H:Hp} (h:KTup K a xs):SqT K H a xs:=.inr h
theorem stT {K:PySem.W.Frag} {H H':Hp} {a:Addr} {xs:List V} (e:Same H H') (h:SqT K H a xs):SqT K H' a xs:=by
  rcases h with (h | ⟨o,h⟩) | h
  · exact .inl (.inl (e _ _ h))
  · exact .inl (.inr ⟨o,e _ _ h⟩)
  · exact .inr h
def rCat3 (K:PySem.W.Frag):R2:=fun x y H Q=>∃ (a b:Addr) (xs ys:List V),x=.ref a∧y=.ref b∧SqT K H a xs∧SqT K H b ys∧xs.length+ys.length≤sizeLine∧∀ (q:Addr) (H':Hp),Same H H'→SqT K H' q (xs++ys)→Q (.ref q) H'
theorem op_catT3 {X:Cx}:OpR X (binaryOp .Add) (rCat3 X.K):=by
  intro pins s σ H x y v u Q I rx ry h
  obtain ⟨a,b,xs,ys,rfl,rfl,ha,hb,hz,q⟩:=h
  cases xs with
  | cons x1 xs =>
    refine op_catT pins s σ H (.ref a) (.ref b) v u Q I rx ry ⟨a,b,_,_,rfl,rfl,ha,hb,by simp,hz,fun z=>?_,fun z p hp=>q p _ (same_new hp _) (SqT.of upd_same)⟩
    refine q a H (Same.refl H) ?_
    rw [z,List.append_nil]
    exact ha
  | nil =>
    cases rx
    cases ry
    obtain ⟨its,r1,p1,_⟩:=I.tuple ha
    obtain ⟨its2,r2,p2,_⟩:=I.tuple hb
    cases r1
    obtain ⟨⟨cls,dd,data,sl⟩,ho,hc,n,hd⟩:=id p1
    obtain ⟨⟨cls2,dd2,data2,sl2⟩,ho2,hc2,n2,hd2⟩:=id p2
    simp only at hc hd hc2 hd2
    subst hc hd hc2 hd2
    refine concat_meets ⟨_,ho,rfl⟩ ⟨_,ho2,rfl⟩ noFill_tuple_add seq_tuple_add PySem.F.slot_tuple_add PySem.F.entry_tuple_add (PySem.F.args_tuple_add_2 _ _) (tuple_addW0 a b _ its2.toArray n n2 dd dd2 sl sl2 rfl) ⟨ho,ho2,?_⟩
    exact ⟨.ref b,H,I,rfl,q b H (Same.refl H) hb⟩
def KEmpty (K:PySem.W.Frag) (e:Addr):Prop:=∃ e0 e1 e2 e3:Addr,KTup K e [.ref e0,.ref e1,.ref e2,.ref e3]∧KTup K e0 []∧KTup K e1 []∧KTup K e2 []∧KTup K e3 []
end L2
set_option maxHeartbeats 4000000
namespace L2
open PySem PySem.Spec PyProof.Rows
end L2
namespace MN
open PySem
abbrev kwD (d:Value):List (Str × Value):=[(Str.ofString "default",d)]
section
variable {prog:Program} {w:World} {A:Around} {R:Result→Shared→Prop} {It:Addr} {fp wr:List Addr} {n:Nat} {Pr:Nat→Value→Prop} {Sx:Nat→Heap→Prop}
end
section
variable {prog:Program} {w:World} {A:Around} {E:Value→Shared→Prop} {s:Shared}
end
end MN
namespace L2
open PySem PySem.Spec PyProof.Rows
end L2
namespace L2
open PySem PySem.Spec PyProof.Rows
end L2
namespace L2
open PySem PySem.Spec PyProof.Rows
def rInD (K:PySem.W.Frag):R2:=fun x y H Q=>∃ (p:Addr) (us:List V) (d:D) (es:List D) (n:Nat),y=.ref p∧(SqL K H p us∨SqT K H p us)∧Den H x d∧DenL H us es∧(∀ e∈es,∃ r,e=.tup r)∧(∃ r,d=.tup r)∧Shal n d∧(∀ e∈es,Shal n e∧Sim e d)∧n≤50∧Q (.bl (es.any fun e=>eqD e d)) H
theorem any_pt {α β:Type} {f:α→Bool} {g:β→Bool}:∀ {xs:List α} {ys:List β},xs.length=ys.length→(∀ (i:Nat) x y,xs[i]?=some x→ys[i]?=some y→f x=g y)→xs.any f=ys.any g
  | [],[],_,_=>rfl
  | x :: xs,y :: ys,hl,h=>by
    rw [List.any_cons,List.any_cons,h 0 x y rfl rfl,any_pt (by simpa using hl) fun i a b h1 h2=>h (i+1) a b (by simpa using h1) (by simpa using h2)]
  | [],_ :: _,hl,_=>by simp at hl
  | _ :: _,[],hl,_=>by simp at hl
open Classical in
theorem op_inD {X:Cx} (hu:X.A.units+64 < cLine):OpR X (compareOp .In) (rInD X.K):=by
  intro pins s σ H x y v u Q I rx ry h
  obtain ⟨p,us,d,es,n,rfl,hq,hx,hde,htup,⟨r0,rfl⟩,hsd,hse,hn,q⟩:=h
  cases ry
  have cm:=cmpD I (s':=s) (fun b o z=>z) n
  have key:∀ its:List Value,Vals us its→(∀ w∈its,SeqAt.EqAt X.A.in1 s w v (decide (∃ a e,w=Value.ref a∧Den H (.ref a) e∧eqD e (.tup r0)=true)))∧its.any (fun w=>decide (∃ a e,w=Value.ref a∧Den H (.ref a) e∧eqD e (.tup r0)=true))=es.any fun e=>eqD e (.tup r0):=by
    intro its r
    have at_:∀ (i:Nat) (w:Value),its[i]?=some w→∃ a e,es[i]?=some e∧w=.ref a∧Den H (.ref a) e:=fun i w hw=>by
      have hl:=r.length
      have hi:=(List.getElem?_eq_some_iff.mp hw).1
      obtain ⟨e,he,de⟩:=hde.at_ (List.getElem?_eq_getElem (by omega:i < us.length))
      obtain ⟨r1,rfl⟩:=htup e (List.mem_of_getElem? he)
      obtain ⟨a,vs,ea,ha,hd⟩:=den_tup de
      obtain ⟨w',hw',rw'⟩:=r.get (List.getElem?_eq_getElem (by omega:i < us.length))
      rw [hw] at hw'
      cases hw'
      rw [ea] at rw' de
      cases rw'
      exact ⟨a,_,he,rfl,de⟩
    have val:∀ {a:Addr} {e:D},Den H (.ref a) e→decide (∃ a' e',Value.ref a=Value.ref a'∧Den H (.ref a') e'∧eqD e' (.tup r0)=true)=eqD e (.tup r0):=fun {a e} de=>by
      rw [Bool.eq_iff_iff,decide_eq_true_eq]
      constructor
      · rintro ⟨a',e',ea,de',h⟩
        injection ea with ea
        subst ea
        rw [Den.det de de']
        exact h
      · exact fun h=>⟨a,e,rfl,de,h⟩
    refine ⟨fun w hw=>?_,?_⟩
    · obtain ⟨i,hi,rfl⟩:=List.getElem_of_mem hw
      obtain ⟨a,e,he,ew,de⟩:=at_ i _ (List.getElem?_eq_getElem hi)
      rw [ew,val de]
      obtain ⟨s1,s2⟩:=hse e (List.mem_of_getElem? he)
      exact (cm e (.tup r0) X.A.in1 (.ref a) x (.ref a) v s1 hsd s2 de hx rfl rx (by first | (simp only [Around.in1]; omega) | omega)).1
    · refine any_pt (by rw [← r.length,hde.len]) fun i w e hw he=>?_
      obtain ⟨a,e',he',ew,de⟩:=at_ i w hw
      rw [he] at he'
      cases he'
      rw [ew]
      exact val de
  rcases hq with hq | hq
  · obtain ⟨its,r,pl,hz⟩:=I.list hq
    obtain ⟨k1,k2⟩:=key its r
    refine SeqAt.in_listAt (fun w=>decide (∃ a e,w=Value.ref a∧Den H (.ref a) e∧eqD e (.tup r0)=true)) pl.isList (fun w hw=>k1 w (by simpa using hw)) ⟨.bl _,H,I,rfl,?_⟩
    rw [show its.toArray.any (fun w=>decide (∃ a e,w=Value.ref a∧Den H (.ref a) e∧eqD e (.tup r0)=true))=its.any (fun w=>decide (∃ a e,w=Value.ref a∧Den H (.ref a) e∧eqD e (.tup r0)=true)) by simp,k2]
    exact q
  · obtain ⟨its,r,pl,hz⟩:=I.tuple hq
    obtain ⟨k1,k2⟩:=key its r
    refine SeqAt.in_tupleAt (fun w=>decide (∃ a e,w=Value.ref a∧Den H (.ref a) e∧eqD e (.tup r0)=true)) pl (fun w hw=>k1 w (by simpa using hw)) ⟨.bl _,H,I,rfl,?_⟩
    rw [show its.toArray.any (fun w=>decide (∃ a e,w=Value.ref a∧Den H (.ref a) e∧eqD e (.tup r0)=true))=its.any (fun w=>decide (∃ a e,w=Value.ref a∧Den H (.ref a) e∧eqD e (.tup r0)=true)) by simp,k2]
    exact q
end L2
namespace L2
open PySem PySem.Spec PyProof.Rows
def K0:PySem.W.Frag:=[]
section
variable {X:Cx}
def mc (t:TE):TE:=fun σ H Q=>∃ Q0,t σ H Q0∧∀ v H',Q0 v H'→Q v H'
def mcA (t:TA):TA:=fun σ H Q=>∃ Q0,t σ H Q0∧∀ v H',Q0 v H'→Q v H'
end
theorem hid {T:Prop} (k:∀ G:Prop,(T→G)→G):T:=k T id
end L2
namespace L2
open PySem PySem.Spec PyProof.Rows
structure Up (D E:Ends):Prop where
  n:∀ σ H,D.nx σ H→E.nx σ H
  r:∀ v H,D.rt v H→E.rt v H
  b:∀ σ H,D.bk σ H→E.bk σ H
  c:∀ σ H,D.ct σ H→E.ct σ H
theorem hidS {g:TG} {tb:TS} {D:Ends} {v:V} {σ:St} {H:Hp} (k:∀ E:Ends,Up D E→g v σ H fun σ2 H2=>tb E σ2 H2):g v σ H fun σ2 H2=>tb D σ2 H2:=k D ⟨fun _ _ h=>h,fun _ _ h=>h,fun _ _ h=>h,fun _ _ h=>h⟩
theorem comp_byH {J:It} {g:TG} {tc:TT} {te:TE} {R:Hp→Prop} {l:Addr} {σ0:St} {H0:Hp} (n:Nat) (Pv:Nat→St→Hp→Prop) (h0:Pv 0 σ0 H0) (hstop:∀ σ H,Pv n σ H→J.stop n H∧R H)
    (hgo:∀ i σ H,i < n→Pv i σ H→J.go i H∧∀ N:St→Hp→Prop,(∀ σ' H',Pv (i+1) σ' H'→N σ' H')→∀ x H',J.yld i H x H'→g x σ H' fun σ2 H2=>tc σ2 H2 fun b H3=>if b=true then te σ2 H3 fun v H4=>∃ ys,H4 l=some (.lst ys)∧ys.length < sizeLine∧N σ2 (upd H4 l (.lst (ys++[v]))) else N σ2 H3) :
    ∃ W:Nat→Nat→St→Hp→Prop,(∃ m,W 0 m σ0 H0)∧∀ i m σ H,W i m σ H →
      (J.stop i H∧R H)∨(J.go i H∧∃ N:St→Hp→Prop,(∀ σ' H',N σ' H'→∃ m',m' < m∧W (i+1) m' σ' H') ∧
        ∀ x H',J.yld i H x H'→g x σ H' fun σ2 H2=>tc σ2 H2 fun b H3=>if b=true then te σ2 H3 fun v H4=>∃ ys,H4 l=some (.lst ys)∧ys.length < sizeLine∧N σ2 (upd H4 l (.lst (ys++[v]))) else N σ2 H3) :=
  comp_by n Pv h0 hstop fun i σ H hi hp=>⟨(hgo i σ H hi hp).1,(hgo i σ H hi hp).2 _ fun _ _ h=>h⟩
def FnI (K:PySem.W.Frag) (x:Str) (st:Stmt):Prop:=∃ (f:Addr) (fd:FuncData),PySem.W.nsIn K mainGlobals x=some (some (.ref f))∧Fun K x x st f fd
theorem fni {K:PySem.W.Frag} {x:Str} {st:Stmt} {f:Addr} {oc:Value} {od an:Option Addr} {osl:Array (Option Value)} {kV doc pm cdv ct:Value} (a:PySem.W.nsIn K mainGlobals x=some (some (.ref f))) (l:K.lookup f=some ⟨oc,od,.func (PySem.W.fnOf x x (defArgs st) (defBody st) (defScope st) .none kV doc pm an cdv ct),osl⟩)
    (c:PySem.W.codeIn K cdv x=true) (k:PySem.W.keepIn K (.ref f)=true):FnI K x st:=⟨f,_,a,fun_mk l c k⟩
theorem FnI.has {K:PySem.W.Frag} {mg:Str→Option Value} {h:Heap} {x:Str} {st:Stmt} {ps:List Str} (X:K.In h) (G:h.Ns mainGlobals mg) (i:FnI K x st)
    (hb:∀ (kV doc pm:Value) (an:Option Addr) (cdv ct:Value) (us:List Value),us.length=ps.length→bindArgs (PySem.W.fnOf x x (defArgs st) (defBody st) (defScope st) .none kV doc pm an cdv ct) ⟨us,[]⟩=pure (ps.zip us)):Has K mg x st ps:=by
  obtain ⟨f,fd,a,F⟩:=i
  exact ⟨f,fd,F,F.binds hb,PySem.W.mg_of X G a⟩
theorem len0 {α:Type _} {P:List α→Prop} (us:List α) (hl:us.length=0) (h:P []):P us:=by
  cases us with
  | nil=>exact h
  | cons a t=>exact (Nat.succ_ne_zero _ hl).elim
theorem lenS {α:Type _} {P:List α→Prop} (us:List α) (n:Nat) (hl:us.length=n+1) (h:∀ a t,t.length=n→P (a :: t)):P us:=by
  cases us with
  | nil=>exact (Nat.succ_ne_zero n hl.symm).elim
  | cons a t=>exact h a t (Nat.succ.inj hl)
@[elab_as_elim] theorem len1 {α:Type _} {P:List α→Prop} (us:List α) (hl:us.length=1) (h:∀ a0,P [a0]):P us:=lenS (P:=P) us 0 hl fun a t ht=>len0 (P:=fun t=>P (a :: t)) t ht (h a)
@[elab_as_elim] theorem len2 {α:Type _} {P:List α→Prop} (us:List α) (hl:us.length=2) (h:∀ a0 a1,P [a0,a1]):P us:=lenS (P:=P) us 1 hl fun a t ht=>len1 (P:=fun t=>P (a :: t)) t ht (h a)
@[elab_as_elim] theorem len3 {α:Type _} {P:List α→Prop} (us:List α) (hl:us.length=3) (h:∀ a0 a1 a2,P [a0,a1,a2]):P us:=lenS (P:=P) us 2 hl fun a t ht=>len2 (P:=fun t=>P (a :: t)) t ht (h a)
@[elab_as_elim] theorem len4 {α:Type _} {P:List α→Prop} (us:List α) (hl:us.length=4) (h:∀ a0 a1 a2 a3,P [a0,a1,a2,a3]):P us:=lenS (P:=P) us 3 hl fun a t ht=>len3 (P:=fun t=>P (a :: t)) t ht (h a)
@[elab_as_elim] theorem len5 {α:Type _} {P:List α→Prop} (us:List α) (hl:us.length=5) (h:∀ a0 a1 a2 a3 a4,P [a0,a1,a2,a3,a4]):P us:=lenS (P:=P) us 4 hl fun a t ht=>len4 (P:=fun t=>P (a :: t)) t ht (h a)
@[elab_as_elim] theorem len6 {α:Type _} {P:List α→Prop} (us:List α) (hl:us.length=6) (h:∀ a0 a1 a2 a3 a4 a5,P [a0,a1,a2,a3,a4,a5]):P us:=lenS (P:=P) us 5 hl fun a t ht=>len5 (P:=fun t=>P (a :: t)) t ht (h a)
@[elab_as_elim] theorem len7 {α:Type _} {P:List α→Prop} (us:List α) (hl:us.length=7) (h:∀ a0 a1 a2 a3 a4 a5 a6,P [a0,a1,a2,a3,a4,a5,a6]):P us:=lenS (P:=P) us 6 hl fun a t ht=>len6 (P:=fun t=>P (a :: t)) t ht (h a)
@[elab_as_elim] theorem len8 {α:Type _} {P:List α→Prop} (us:List α) (hl:us.length=8) (h:∀ a0 a1 a2 a3 a4 a5 a6 a7,P [a0,a1,a2,a3,a4,a5,a6,a7]):P us:=lenS (P:=P) us 7 hl fun a t ht=>len7 (P:=fun t=>P (a :: t)) t ht (h a)
end L2
set_option maxHeartbeats 1000000
namespace SO
open PySem PySem.W PyProof.Rows
section
variable {O:KeyOrd} {key:Nat→O.α} {N:Nat} {prog:Program} {w:World} {A:Around} {E:Value→Shared→Prop} {s:Shared} {κ:SortKind} {it:Array Keyed} {st:SortSt}
end
end SO
namespace SO
open PySem PySem.W PyProof.Rows
abbrev arr (it:Array Keyed) (l:List Nat):Array Keyed:=l.toArray.map (kas_item it)
section
variable {it:Array Keyed}
end
section
variable {O:KeyOrd} {key:Nat→O.α} {N:Nat} {prog:Program} {w:World} {A:Around} {E:Value→Shared→Prop} {s:Shared} {κ:SortKind} {it:Array Keyed} {st:SortSt}
abbrev Up (key:Nat→O.α) (l:List Nat):Prop:=l.Pairwise fun x y=>O.kle (key x) (key y)
structure Mg (key:Nat→O.α) (As Bs o ra rb:List Nat):Prop where
  perm:(o++(ra++rb)).Perm (As++Bs)
  so:Up key o
  le:∀ x∈o,∀ y∈ra++rb,O.kle (key x) (key y)
  sa:Up key ra
  sb:Up key rb
variable {As Bs o ra rb xs ra' rb':List Nat}
def Stay (st st':SortSt):Prop:=kindOf st'=kindOf st∧arrOf st'=arrOf st∧pendingOf st'=pendingOf st∧failedOf st'=failedOf st
end
end SO
set_option maxHeartbeats 2000000
namespace SO
open PySem PySem.W PyProof.Rows
section
variable {O:KeyOrd} {key:Nat→O.α} {N:Nat} {prog:Program} {w:World} {A:Around} {E:Value→Shared→Prop} {s:Shared} {κ:SortKind} {it:Array Keyed} {st:SortSt} {As Bs o:List Nat} {ia ib:Nat}
end
end SO
namespace SO
open PySem PySem.W PyProof.Rows
section
variable {O:KeyOrd} {key:Nat→O.α} {N:Nat} {prog:Program} {w:World} {A:Around} {E:Value→Shared→Prop} {s:Shared} {κ:SortKind} {it:Array Keyed} {st:SortSt} {As Bs o ra rb xs ra' rb':List Nat} {na nb:Nat}
structure Mh (key:Nat→O.α) (As Bs o ra rb:List Nat):Prop where
  perm:(ra++rb++o).Perm (As++Bs)
  so:Up key o
  le:∀ x∈ra++rb,∀ y∈o,O.kle (key x) (key y)
  sa:Up key ra
  sb:Up key rb
end
end SO
namespace SO
open PySem PySem.W PyProof.Rows
section
variable {O:KeyOrd} {key:Nat→O.α} {N:Nat} {prog:Program} {w:World} {A:Around} {E:Value→Shared→Prop} {s:Shared} {κ:SortKind} {it:Array Keyed} {pend:Array (Nat × Nat × Nat)} {st:SortSt} {q:Array Nat}
structure Ss (κ:SortKind) (it:Array Keyed) (pend:Array (Nat × Nat × Nat)) (q:Array Nat) (st:SortSt):Prop where
  kind:kindOf st=κ
  arr:arrOf st=q.map (kas_item it)
  pend:pendingOf st=pend
  failed:failedOf st=none
def SortedR (key:Nat→O.α) (q:Array Nat) (lo n:Nat):Prop:=∀ i j,i≤j→j < n→O.kle (KN key q (lo+i)) (KN key q (lo+j))
def FallR (key:Nat→O.α) (q:Array Nat) (lo n:Nat):Prop:=∀ i j,i≤j→j < n→O.kle (KN key q (lo+j)) (KN key q (lo+i))
def Fix (key:Nat→O.α) (lo hi:Nat) (q q':Array Nat):Prop:=∀ i,(i < lo∨hi≤i)→KN key q' i=KN key q i
end
end SO
namespace SO
open PySem PySem.W PyProof.Rows
section
variable {O:KeyOrd} {key:Nat→O.α} {N:Nat} {prog:Program} {w:World} {A:Around} {E:Value→Shared→Prop} {s:Shared} {κ:SortKind} {it:Array Keyed} {pend:Array (Nat × Nat × Nat)} {st:SortSt} {q:Array Nat}
end
section
variable {O:KeyOrd} {key:Nat→O.α} {N:Nat} {q:Array Nat}
end
end SO
namespace SO
open PySem PySem.W PyProof.Rows
section
variable {O:KeyOrd} {key:Nat→O.α} {N:Nat} {prog:Program} {w:World} {A:Around} {E:Value→Shared→Prop} {s:Shared} {κ:SortKind} {it:Array Keyed} {pend:Array (Nat × Nat × Nat)} {st:SortSt} {q:Array Nat}
end
end SO
namespace SO
open PySem PySem.W PyProof.Rows
abbrev pr (t:Nat × Nat × Nat):Nat × Nat:=(t.1,t.2.1)
def Chain:Nat→List (Nat × Nat)→Nat→Prop
  | a,[],b=>a=b
  | a,t :: r,b=>t.1=a∧1≤t.2∧Chain (a+t.2) r b
theorem Chain.le:∀ {a b:Nat} {P:List (Nat × Nat)},Chain a P b→a+P.length≤b∧∀ t∈P,a≤t.1∧t.1+t.2≤b
  | a,b,[],h=>by have h:a=b:=h; subst h; exact ⟨Nat.le_refl _,fun t ht=>by cases ht⟩
  | a,b,t :: P,⟨h1,h2,h3⟩=>by
    obtain ⟨g1,g2⟩:=Chain.le h3
    refine ⟨by rw [List.length_cons]; omega,fun u hu=>?_⟩
    rcases List.mem_cons.mp hu with rfl | hu
    · omega
    · have:=g2 u hu
      omega
section
variable {O:KeyOrd} {key:Nat→O.α} {N:Nat} {prog:Program} {w:World} {A:Around} {E:Value→Shared→Prop} {s:Shared} {κ:SortKind} {it:Array Keyed} {pend:Array (Nat × Nat × Nat)} {st:SortSt} {q:Array Nat}
structure Rn (key:Nat→O.α) (N:Nat) (κ:SortKind) (it:Array Keyed) (pend:Array (Nat × Nat × Nat)) (q:Array Nat) (st:SortSt) (lo:Nat):Prop where
  S:Ss κ it pend q st
  hq:InN N q
  ch:Chain 0 (pend.toList.map pr) lo
  up:∀ t∈pend.toList.map pr,SortedR key q t.1 t.2
end
end SO
set_option maxHeartbeats 1000000
namespace SO
open PySem PySem.W PyProof.Rows
variable {O:KeyOrd} {key:Nat→O.α} {N:Nat}
section
variable {prog:Program} {w:World} {A:Around} {E:Value→Shared→Prop} {s:Shared}
end
end SO
namespace L2
open PySem PySem.W PyProof.Rows
section
variable {prog:Program} {w:World} {A:Around} {E:Value→Shared→Prop} {s:Shared}
variable {X:Cx} {pins:List (Addr × Obj)} {σ:St} {H:Hp} {s:Shared}
end
end L2
namespace L2
open PySem PySem.W PyProof.Rows
section
variable {X:Cx} {pins:List (Addr × Obj)} {σ:St} {H:Hp} {s:Shared}
def SObl (X:Cx) (s:Shared) (its:List Value) (ds:List D):Prop:=∃ κ:SortKind,
  (2≤its.length→∀ h',SO.Keeps s.heap h'→∀ (E:Value→Shared→Prop) (Q:SortKind→Shared→Prop),Q κ { s with heap:=h' }→wpAny (model X.prog X.w) X.A.in1.in1 (keyKind' its.toArray) Q E { s with heap:=h' }) ∧
  (∀ h',SO.Keeps s.heap h'→SO.Cmp (O:=ordD) (fun i=>ds.getD i .non) its.length (PySem.W.kas_ask X.prog X.w X.A.in1.in1 κ its) { s with heap:=h' })
theorem sobl (hu:X.A.units+64 < cLine) (I:Inv X pins σ H s) {vs:List V} {ds:List D} {its:List Value} (hD:DenL H vs ds) (rv:Vals vs its) (hom:Hom ds) (h64:ds.length≤100000) (hsh:∀ d∈ds,Shal 50 d):SObl X s its ds:=by
  have l1:=hD.len
  have l2:=rv.length
  have one:(∀ d∈ds,∀ xs,d≠.tup xs)→∀ T,(T != Value.type "tuple")=true→(T == T)=true→(∀ d∈ds,tyD d=T)→SObl X s its ds:=by
    intro nt T hT1 hT2 hT
    refine ⟨oneType',fun h2 h' kp E Q q=>?_,fun h' kp i j C hi hj q=>?_⟩
    · refine PySem.W.kas_kind h2 (T:=T) (fun v hv=>?_) hT1 hT2 q
      obtain ⟨i,hi,rfl⟩:=List.mem_iff_getElem.mp hv
      obtain ⟨x,v,e1,e2,e3,e4,e5,e6⟩:=at3 (i:=i) hD rv (by omega)
      rw [List.getElem?_eq_getElem hi] at e2
      cases e2
      rw [← hT _ e6]
      exact looks_ty I kp (hom.1 _ e6 _ e6) e4 e5
    · obtain ⟨x,v,e1,e2,e3,e4,e5,e6⟩:=at3 (i:=i) hD rv (by omega)
      obtain ⟨y,u,f1,f2,f3,f4,f5,f6⟩:=at3 (i:=j) hD rv (by omega)
      unfold PySem.W.kas_ask
      rw [e3,f3,keyLt'_oneType]
      exact one_true (hom.1 _ e6 _ f6) e4 f4 e5 f5 (nt _ e6) _ _ q
  rcases hom.2 with hi | hi | hi
  · exact one (fun d hd xs e=>by obtain ⟨i,z⟩:=hi d hd; rw [z] at e; cases e) (.type "int") (by decide) (by rfl) (fun d hd=>by obtain ⟨i,z⟩:=hi d hd; rw [z]; rfl)
  · exact one (fun d hd xs e=>by obtain ⟨i,z⟩:=hi d hd; rw [z] at e; cases e) (.type "str") (by decide) (by rfl) (fun d hd=>by obtain ⟨i,z⟩:=hi d hd; rw [z]; rfl)
  · obtain ⟨T,hT2,hT⟩:∃ T:Value,(T == T)=true∧∀ d r,D.tup (d :: r)∈ds→tyD d=T∧Sim d d:=by
      cases hds:ds with
      | nil=>exact ⟨.type "int",by rfl,fun d r z=>by cases z⟩
      | cons d0 ds0 =>
        obtain ⟨e0,r0,rfl⟩:=hi d0 (by rw [hds]; exact .head _)
        refine ⟨tyD e0,tyD_self e0,fun d r z=>?_⟩
        have s1:=hom.1 _ (show D.tup (d :: r)∈ds by rw [hds]; exact z) (.tup (e0 :: r0)) (by rw [hds]; exact .head _)
        have s2:=hom.1 _ (show D.tup (d :: r)∈ds by rw [hds]; exact z) (.tup (d :: r)) (by rw [hds]; exact z)
        replace s1:=SimL_c' (Sim_t' s1)
        replace s2:=SimL_c' (Sim_t' s2)
        exact ⟨tyD_sim s1.1,s2.1⟩
    refine ⟨tuples' (T != Value.type "tuple"),fun h2 h' kp E Q q=>?_,fun h' kp i j C hi' hj q=>?_⟩
    · obtain ⟨fs,k,l,m⟩:=kat_tups I kp hD rv hi
      refine PySem.W.kat_kind k (by omega) (T:=T) (fun v hv=>?_) hT2 q
      obtain ⟨x,d,r,z1,z2,z3⟩:=m v hv
      obtain ⟨t1,t2⟩:=hT d r z3
      rw [← t1]
      exact looks_ty I kp t2 z1 z2
    · obtain ⟨x,v,e1,e2,e3,e4,e5,e6⟩:=at3 (i:=i) hD rv (by omega)
      obtain ⟨y,u,f1,f2,f3,f4,f5,f6⟩:=at3 (i:=j) hD rv (by omega)
      unfold PySem.W.kas_ask
      rw [e3,f3]
      have hq:C (dlt (ds.getD i .non) (ds.getD j .non)) { s with heap:=h' }:=q
      obtain ⟨d1,r1,E1⟩:=hi _ e6
      obtain ⟨d2,r2,E2⟩:=hi _ f6
      have sh1:=hsh _ e6
      have sh2:=hsh _ f6
      have sm:=hom.1 _ e6 _ f6
      rw [E1] at e4 e6 hq sh1 sm
      rw [E2] at f4 f6 hq sh2 sm
      obtain ⟨a1,w1,rfl,ha1,hda1⟩:=den_tup e4
      obtain ⟨a2,w2,rfl,ha2,hda2⟩:=den_tup f4
      cases e5
      cases f5
      obtain ⟨its1,v1,⟨o1,eo1,ec1,n1,ed1⟩,_⟩:=I.tuple (SqT.of (K:=X.K) ha1)
      obtain ⟨its2,v2,⟨o2,eo2,ec2,n2,ed2⟩,_⟩:=I.tuple (SqT.of (K:=X.K) ha2)
      have k1:=hda1.len
      have k2:=hda2.len
      have k3:=v1.length
      have k4:=v2.length
      replace sm:=Sim_t' sm
      have cm:=cmpD I (s':={ s with heap:=h' }) kp 49
      have each:∀ (k:Nat) (p q:Value),(its1.zip its2)[k]?=some (p,q)→∃ (x y:V),Den H x ((d1 :: r1).getD k .non)∧Den H y ((d2 :: r2).getD k .non)∧RelV x p∧RelV y q∧Sim ((d1 :: r1).getD k .non) ((d2 :: r2).getD k .non)∧Shal 49 ((d1 :: r1).getD k .non)∧Shal 49 ((d2 :: r2).getD k .non):=by
        intro k p q hz
        rw [List.getElem?_zip_eq_some] at hz
        have b1:k < its1.length:=(List.getElem?_eq_some_iff.mp hz.1).1
        have b2:k < its2.length:=(List.getElem?_eq_some_iff.mp hz.2).1
        obtain ⟨x1,p1,_,g1,_,g2,g3,g4⟩:=at3 (i:=k) hda1 v1 (by omega)
        obtain ⟨x2,p2,_,g1',_,g2',g3',g4'⟩:=at3 (i:=k) hda2 v2 (by omega)
        rw [hz.1] at g1
        rw [hz.2] at g1'
        cases g1
        cases g1'
        refine ⟨x1,x2,g2,g2',g3,g3',sm.at_ (i:=k) ?_ ?_,(sh1.2 _ rfl).2 _ g4,(sh2.2 _ rfl).2 _ g4'⟩
        · rw [List.getD_eq_getElem?_getD,List.getElem?_eq_getElem (by omega)]; rfl
        · rw [List.getD_eq_getElem?_getD,List.getElem?_eq_getElem (by omega)]; rfl
      refine PySem.W.kat_lt (kp _ _ eo1) ed1 (kp _ _ eo2) ed2 (SO.katlex (e:=fun k=>eqD ((d1 :: r1).getD k .non) ((d2 :: r2).getD k .non)) (f:=fun k=>dlt ((d1 :: r1).getD k .non) ((d2 :: r2).getD k .non)) _ 0 (fun k p q z=>?_) (fun k p q z _ Q E hq=>?_) ?_)
      · obtain ⟨x,y,h1,h2,h3,h4,h5,h6,h7⟩:=each k p q z
        rw [Nat.zero_add]
        exact (cm _ _ _ _ _ _ _ h6 h7 h5 h1 h2 h3 h4 (by simp only [Around.in1]; omega)).1
      · obtain ⟨x,y,h1,h2,h3,h4,h5,h6,h7⟩:=each k p q z
        rw [Nat.zero_add] at hq ⊢
        have lt:=(cm _ _ X.A.in1.in1 _ _ _ _ h6 h7 h5 h1 h2 h3 h4 (by simp only [Around.in1]; omega)).2
        cases hb:(T != Value.type "tuple") && k == 0 with
        | false=>exact one_false lt Q E hq
        | true =>
          rw [Bool.and_eq_true,beq_iff_eq] at hb
          obtain ⟨hb,rfl⟩:=hb
          have t1:=hT d1 r1 e6
          exact one_true h5 h1 h2 h3 h4 (show ∀ ds,d1≠.tup ds from tyD_tup t1.2 (by rw [t1.1]; exact hb)) Q E hq
      · have hl:=lexR_dlt (d1 :: r1) (d2 :: r2)
        have e:List.range' 0 (its1.toArray.toList.zip its2.toArray.toList).length=List.range (min (d1 :: r1).length (d2 :: r2).length):=by
          rw [List.range_eq_range']
          congr 1
          simp only [List.length_zip]
          omega
        have ef:decide (its1.toArray.size < its2.toArray.size)=decide ((d1 :: r1).length < (d2 :: r2).length):=by
          rw [show its1.toArray.size=(d1 :: r1).length by simp at k1 k3 ⊢; omega,show its2.toArray.size=(d2 :: r2).length by simp at k2 k4 ⊢; omega]
        rw [e,ef,hl]
        rw [dlt_tt] at hq
        exact hq
end
end L2
namespace SO
open PySem PySem.W PyProof.Rows
section
variable {O:KeyOrd} {prog:Program} {w:World} {A:Around} {E:Value→Shared→Prop} {s:Shared}
end
end SO
namespace L2
open PySem PySem.Spec PyProof.Rows
end L2
set_option maxHeartbeats 4000000
namespace DR
open PySem PySem.W
open Sem (wp)
section
variable {prog:Program} {w:World} {A:Around} {E:Value→Shared→Prop} {s:Shared} {it dd:Addr} {es:Array DictEntry} {i ep:Nat}
end
end DR
namespace L2
open PySem PySem.Spec PyProof.Rows
end L2
namespace L2
open PySem PySem.Spec PyProof.Rows
end L2
namespace L2
open PySem PySem.Spec PyProof.Rows
end L2
namespace ST
open PySem PySem.SetTable
def S5:Nat→Nat
  | 0=>0
  | d+1=>5 * S5 d+1
theorem s5_pow (d:Nat):5 ^ d=4 * S5 d+1:=by
  induction d with
  | zero=>rfl
  | succ d ih=>rw [Nat.pow_succ,ih]; show (4 * S5 d+1) * 5=4 * (5 * S5 d+1)+1; omega
theorem s5_add (d e:Nat):S5 (d+e)=5 ^ e * S5 d+S5 e:=by
  induction e with
  | zero=>show S5 d=5 ^ 0 * S5 d+0; simp
  | succ e ih =>
    show 5 * S5 (d+e)+1=5 ^ (e+1) * S5 d+(5 * S5 e+1)
    rw [ih,Nat.pow_succ]
    have:5 * (5 ^ e * S5 d)=5 ^ e * 5 * S5 d:=by rw [Nat.mul_comm (5 ^ e) 5,Nat.mul_assoc]
    omega
theorem two_pow (k:Nat):∃ a b:Nat,5 ^ (2 ^ k)=1+2 ^ (k+2) * a∧S5 (2 ^ k)=2 ^ k * (2 * b+1):=by
  induction k with
  | zero=>exact ⟨1,0,rfl,rfl⟩
  | succ k ih =>
    obtain ⟨a,b,h1,h2⟩:=ih
    have e:2 ^ (k+1)=2 ^ k+2 ^ k:=by rw [Nat.pow_succ]; omega
    refine ⟨a+2 ^ (k+1) * (a * a),b+2 ^ k * a+2 * (b * (2 ^ k * a)),?_,?_⟩
    · have e3:(2:Nat) ^ (k+1+2)=2 * 2 ^ (k+2):=by rw [show k+1+2=(k+2)+1 from rfl,Nat.pow_succ,Nat.mul_comm]
      have e4:(2:Nat) ^ (k+2)=4 * 2 ^ k:=by rw [Nat.pow_add]; omega
      rw [e3,e4,e,Nat.pow_add,h1,e4]
      generalize (2:Nat) ^ k=x
      grind
    · rw [e,s5_add,h1,h2]
      have e4:(2:Nat) ^ (k+2)=4 * 2 ^ k:=by rw [Nat.pow_add]; omega
      rw [e4]
      generalize (2:Nat) ^ k=x
      grind
theorem all5 (k:Nat):∀ i r:Nat,∃ d,d < 2 ^ k∧(5 ^ d * i+S5 d) % 2 ^ k=r % 2 ^ k:=by
  induction k with
  | zero=>intro i r; exact ⟨0,by decide,by rw [Nat.pow_zero,Nat.mod_one,Nat.mod_one]⟩
  | succ k ih =>
    intro i r
    obtain ⟨d,hd,e⟩:=ih i r
    obtain ⟨a,b,h1,h2⟩:=two_pow k
    have e2:(2:Nat) ^ (k+1)=2 * 2 ^ k:=by rw [Nat.pow_succ,Nat.mul_comm]
    have hx:0 < (2:Nat) ^ k:=Nat.pow_pos (by decide)
    generalize hy:5 ^ d * i+S5 d=y at e
    by_cases h:y % (2 * 2 ^ k)=r % (2 * 2 ^ k)
    · exact ⟨d,by omega,by rw [hy,e2]; exact h⟩
    · refine ⟨d+2 ^ k,by omega,?_⟩
      have e3:5 ^ (d+2 ^ k) * i+S5 (d+2 ^ k)=5 ^ (2 ^ k) * y+S5 (2 ^ k):=by
        rw [s5_add,Nat.pow_add,← hy]
        generalize 5 ^ 2 ^ k=u
        generalize 5 ^ d=v
        generalize S5 d=s
        grind
      rw [e3,h1,h2,e2]
      have e4:(2:Nat) ^ (k+2)=2 * 2 ^ k * 2:=by rw [Nat.pow_add]; omega
      rw [e4]
      generalize (2:Nat) ^ k=x at *
      have e5:(1+2 * x * 2 * a) * y+x * (2 * b+1)=(y+x)+2 * x * (2 * a * y+b):=by grind
      rw [e5,Nat.add_mul_mod_self_left]
      have q1:=Nat.mod_add_div y x
      have q2:=Nat.mod_add_div r x
      have m1:y % (2 * x)=y % x+x * (y / x % 2):=by rw [Nat.mul_comm 2 x,Nat.mod_mul]
      have m2:r % (2 * x)=r % x+x * (r / x % 2):=by rw [Nat.mul_comm 2 x,Nat.mod_mul]
      have m3:(y+x) % (2 * x)=(y+x) % x+x * ((y+x) / x % 2):=by rw [Nat.mul_comm 2 x,Nat.mod_mul]
      have q3:(y+x) % x=y % x:=Nat.add_mod_right y x
      have q4:(y+x) / x=y / x+1:=Nat.add_div_right y hx
      rw [m3,m2,q3,q4,e]
      have p1:y / x % 2≠r / x % 2:=fun z=>h (by rw [m1,m2,e,z])
      have p2:(y / x+1) % 2=r / x % 2:=by omega
      rw [p2]
def leapN (mask:Nat):Nat→Nat × Nat→Nat × Nat
  | 0,p=>p
  | n+1,p=>leapN mask n (leap mask p.1 p.2)
theorem leapN_snd (mask n:Nat):∀ p:Nat × Nat,(leapN mask n p).2=p.2 / 32 ^ n:=by
  induction n with
  | zero=>intro p; show p.2=_; rw [Nat.pow_zero,Nat.div_one]
  | succ n ih =>
    intro p
    show (leapN mask n (leap mask p.1 p.2)).2=_
    rw [ih]
    show p.2 / 32 / 32 ^ n=_
    rw [Nat.div_div_eq_div_mul,Nat.pow_succ,Nat.mul_comm]
theorem leapN_add (mask n m:Nat):∀ p,leapN mask (n+m) p=leapN mask m (leapN mask n p):=by
  induction n with
  | zero=>intro p; rw [Nat.zero_add]; rfl
  | succ n ih=>intro p; rw [Nat.succ_add]; exact ih _
theorem leap0 (mask n:Nat):∀ i,i≤mask→leapN mask n (i,0)=((5 ^ n * i+S5 n) % (mask+1),0):=by
  induction n with
  | zero=>intro i hi; show (i,0)=_; rw [Nat.pow_zero,Nat.one_mul]; show (i,0)=((i+0) % (mask+1),0); rw [Nat.add_zero,Nat.mod_eq_of_lt (by omega)]
  | succ n ih =>
    intro i hi
    show leapN mask n (leap mask i 0)=_
    have e:leap mask i 0=((i * 5+1) % (mask+1),0):=rfl
    rw [e,ih _ (by have:=Nat.mod_lt (i * 5+1) (show 0 < mask+1 by omega); omega)]
    congr 1
    have:∀ x y z M:Nat,(x * (y % M)+z) % M=(x * y+z) % M:=fun x y z M=>by
      rw [Nat.add_mod,Nat.mul_mod,Nat.mod_mod,← Nat.mul_mod,← Nat.add_mod]
    rw [this]
    congr 1
    have e1:S5 (n+1)=5 ^ n+S5 n:=by
      have:=s5_pow n
      show 5 * S5 n+1=_
      omega
    rw [e1,Nat.pow_succ]
    generalize 5 ^ n=u
    generalize S5 n=s
    grind
theorem leaps_all {k mask:Nat} (hm:mask+1=2 ^ k) {i p r:Nat} (hp:p < 2 ^ 64) (hr:r≤mask):∃ n,1≤n∧n≤mask+14∧(leapN mask n (i,p)).1=r:=by
  have h13:(leapN mask 13 (i,p)).2=0:=by
    rw [leapN_snd]
    exact Nat.div_eq_of_lt (by show p < 32 ^ 13; omega)
  have hi:(leapN mask 13 (i,p)).1≤mask:=by
    have e:leapN mask 13 (i,p)=leap mask (leapN mask 12 (i,p)).1 (leapN mask 12 (i,p)).2:=leapN_add mask 12 1 _
    rw [e]
    have:=Nat.mod_lt ((leapN mask 12 (i,p)).1 * 5+1+(leapN mask 12 (i,p)).2 / 32) (show 0 < mask+1 by omega)
    show _ % (mask+1)≤mask
    omega
  generalize hq:leapN mask 13 (i,p)=q at h13 hi
  obtain ⟨d,hd,e⟩:=all5 k q.1 r
  refine ⟨13+d,by omega,by omega,?_⟩
  rw [leapN_add,hq,show q=(q.1,0) from Prod.ext rfl h13,leap0 _ _ _ hi]
  show (5 ^ d * q.1+S5 d) % (mask+1)=r
  rw [hm,e,Nat.mod_eq_of_lt (by omega)]
def adv (t:SetTable):Nat→Probe→Probe
  | 0,p=>p
  | d+1,p=>adv t d (t.advance p)
theorem adv_add (t:SetTable) (d e:Nat):∀ p,adv t (d+e) p=adv t e (adv t d p):=by
  induction d with
  | zero=>intro p; rw [Nat.zero_add]; rfl
  | succ d ih=>intro p; rw [Nat.succ_add]; exact ih _
theorem run_le (mask i:Nat):runEnd mask i - i≤9:=by
  unfold runEnd
  split <;> omega
theorem adv_run (t:SetTable):∀ (m:Nat) (q:Probe),q.more=m→(adv t m q).more=0∧(adv t m q).i=q.i∧(adv t m q).perturb=q.perturb:=by
  intro m
  induction m with
  | zero=>intro q h; exact ⟨h,rfl,rfl⟩
  | succ m ih =>
    intro q h
    have e:t.advance q={ q with j:=q.j+1,more:=q.more - 1 }:=by
      unfold SetTable.advance
      rw [if_pos (by omega)]
    show (adv t m (t.advance q)).more=0∧_
    obtain ⟨a,b,c⟩:=ih (t.advance q) (by rw [e]; show q.more - 1=m; omega)
    rw [e] at b c
    exact ⟨a,by show (adv t m (t.advance q)).i=_; rw [e]; exact b,by show (adv t m (t.advance q)).perturb=_; rw [e]; exact c⟩
theorem reach (t:SetTable):∀ (n:Nat) (q:Probe),q.more≤9→∃ d,d≤10 * (n+1)∧(adv t d q).j=(leapN t.mask (n+1) (q.i,q.perturb)).1∧(adv t d q).i=(leapN t.mask (n+1) (q.i,q.perturb)).1∧(adv t d q).perturb=(leapN t.mask (n+1) (q.i,q.perturb)).2∧(adv t d q).more≤9:=by
  intro n
  induction n with
  | zero =>
    intro q hq
    obtain ⟨a,b,c⟩:=adv_run t q.more q rfl
    refine ⟨q.more+1,by omega,?_⟩
    have e:adv t (q.more+1) q=t.advance (adv t q.more q):=adv_add t q.more 1 q
    have e2:t.advance (adv t q.more q)={ adv t q.more q with j:=(leap t.mask q.i q.perturb).1,more:=runEnd t.mask (leap t.mask q.i q.perturb).1 - (leap t.mask q.i q.perturb).1,i:=(leap t.mask q.i q.perturb).1,perturb:=(leap t.mask q.i q.perturb).2 }:=by
      unfold SetTable.advance
      rw [if_neg (by omega),b,c]
    rw [e,e2]
    exact ⟨rfl,rfl,rfl,run_le _ _⟩
  | succ n ih =>
    intro q hq
    obtain ⟨d,hd,h1,h2,h3,h4⟩:=ih q hq
    obtain ⟨a,b,c⟩:=adv_run t (adv t d q).more (adv t d q) rfl
    refine ⟨d+((adv t d q).more+1),by omega,?_⟩
    have e:adv t (d+((adv t d q).more+1)) q=t.advance (adv t (adv t d q).more (adv t d q)):=by rw [adv_add,adv_add]; rfl
    have e3:leapN t.mask (n+1+1) (q.i,q.perturb)=leap t.mask (adv t d q).i (adv t d q).perturb:=by
      rw [leapN_add _ (n+1) 1,h2,h3]
      rfl
    have e2:t.advance (adv t (adv t d q).more (adv t d q))={ adv t (adv t d q).more (adv t d q) with j:=(leap t.mask (adv t d q).i (adv t d q).perturb).1,more:=runEnd t.mask (leap t.mask (adv t d q).i (adv t d q).perturb).1 - (leap t.mask (adv t d q).i (adv t d q).perturb).1,i:=(leap t.mask (adv t d q).i (adv t d q).perturb).1,perturb:=(leap t.mask (adv t d q).i (adv t d q).perturb).2 }:=by
      unfold SetTable.advance
      rw [if_neg (by omega),b,c]
    rw [e,e2,e3]
    exact ⟨rfl,rfl,rfl,run_le _ _⟩
theorem meets {k:Nat} {t:SetTable} (hm:t.mask+1=2 ^ k) {q:Probe} (hq:q.more≤9) (hp:q.perturb < 2 ^ 64) {r:Nat} (hr:r≤t.mask):∃ d,d≤10 * (t.mask+14)∧(adv t d q).j=r:=by
  obtain ⟨n,h1,h2,h3⟩:=leaps_all (mask:=t.mask) hm (i:=q.i) hp hr
  obtain ⟨m,rfl⟩:∃ m,n=m+1:=⟨n - 1,by omega⟩
  obtain ⟨d,hd,e,_⟩:=reach t m q hq
  exact ⟨d,by omega,by rw [e,h3]⟩
def Dist (t:SetTable) (q:Probe) (d:Nat):Prop:=t.slot (adv t d q).j=.empty∧∀ e < d,t.slot (adv t e q).j≠.empty
theorem dist_ex {t:SetTable} {q:Probe}:∀ (d:Nat),t.slot (adv t d q).j=.empty→∃ e,e≤d∧Dist t q e:=by
  intro d
  induction d using Nat.strongRecOn with
  | ind d ih =>
    intro h
    by_cases z:∃ e,e < d∧t.slot (adv t e q).j=.empty
    · obtain ⟨e,he,h2⟩:=z
      obtain ⟨e',h3,h4⟩:=ih e he h2
      exact ⟨e',by omega,h4⟩
    · exact ⟨d,Nat.le_refl _,h,fun e he h2=>z ⟨e,he,h2⟩⟩
theorem Dist.next {t:SetTable} {q:Probe} {d:Nat} (h:Dist t q (d+1)):Dist t (t.advance q) d:=⟨h.1,fun e he=>h.2 (e+1) (by omega)⟩
theorem probe_go {t:SetTable} (hd:t.dummies = #[]) {hashAt:Nat→Int} {h:Int}:∀ (d fuel:Nat) (q:Probe),Dist t q d→d < fuel →
    (SetTable.probe.go t hashAt h fuel q=some (.empty (adv t d q).j q.dummy))∨∃ e i,e < d∧t.slot (adv t e q).j=.live i∧hashAt i=h∧SetTable.probe.go t hashAt h fuel q=some (.candidate (adv t e q).j i (t.advance (adv t e q))):=by
  intro d
  induction d with
  | zero =>
    intro fuel q h hf
    obtain ⟨fuel,rfl⟩:∃ f,fuel=f+1:=⟨fuel - 1,by omega⟩
    refine .inl ?_
    unfold SetTable.probe.go
    have:t.slot q.j=.empty:=h.1
    rw [this]
    rfl
  | succ d ih =>
    intro fuel q hD hf
    obtain ⟨fuel,rfl⟩:∃ f,fuel=f+1:=⟨fuel - 1,by omega⟩
    have hne:t.slot q.j≠.empty:=hD.2 0 (by omega)
    cases hs:t.slot q.j with
    | empty=>exact absurd hs hne
    | dummy =>
      exfalso
      unfold SetTable.slot at hs
      simp only at hs
      split at hs
      · cases hs
      · split at hs
        · rename_i h2
          unfold SetTable.has at h2
          rw [hd] at h2
          simp at h2
        · cases hs
    | live i =>
      by_cases hh:hashAt i=h
      · refine .inr ⟨0,i,by omega,hs,hh,?_⟩
        unfold SetTable.probe.go
        rw [hs]
        simp only [hh,beq_self_eq_true,if_true]
        rfl
      · have e0:SetTable.probe.go t hashAt h (fuel+1) q=SetTable.probe.go t hashAt h fuel (t.advance q):=by
          rw [SetTable.probe.go]
          rw [hs]
          simp only
          rw [if_neg (by simpa using hh)]
        have hdum:(t.advance q).dummy=q.dummy:=by
          unfold SetTable.advance
          split <;> rfl
        rw [e0]
        rcases ih fuel (t.advance q) hD.next (by omega) with h1 | ⟨e,i',h1,h2,h3,h4⟩
        · exact .inl (by rw [h1,hdum]; rfl)
        · exact .inr ⟨e+1,i',by omega,h2,h3,h4⟩
end ST
namespace ST
open PySem PySem.SetTable
def Up (xs:Array Nat):Prop:=xs.toList.Pairwise (· < ·)
theorem Up.lt {xs:Array Nat} (h:Up xs) {i k a b:Nat} (hik:i < k) (ha:xs[i]?=some a) (hb:xs[k]?=some b):a < b:=by
  rw [← Array.getElem?_toList] at ha hb
  obtain ⟨h1,e1⟩:=List.getElem?_eq_some_iff.mp ha
  obtain ⟨h2,e2⟩:=List.getElem?_eq_some_iff.mp hb
  have:=List.pairwise_iff_getElem.mp h i k h1 h2 hik
  rw [e1,e2] at this
  exact this
theorem Up.nil:Up #[]:=List.Pairwise.nil
theorem below_go {xs:Array Nat} {j:Nat} (h:Up xs):∀ (fuel lo hi:Nat),hi≤xs.size→lo≤hi→hi - lo≤fuel→(∀ i v,i < lo→xs[i]?=some v→v < j)→(∀ i v,hi≤i→xs[i]?=some v→j≤v) →
    SetTable.below.go xs j fuel lo hi≤xs.size∧(∀ i v,i < SetTable.below.go xs j fuel lo hi→xs[i]?=some v→v < j)∧(∀ i v,SetTable.below.go xs j fuel lo hi≤i→xs[i]?=some v→j≤v):=by
  intro fuel
  induction fuel with
  | zero =>
    intro lo hi h1 h2 h3 h4 h5
    unfold SetTable.below.go
    exact ⟨by omega,h4,fun i v hi'=>h5 i v (by omega)⟩
  | succ fuel ih =>
    intro lo hi h1 h2 h3 h4 h5
    unfold SetTable.below.go
    by_cases hl:lo < hi
    · rw [if_pos hl]
      dsimp only
      have hm:(lo+hi) / 2 < xs.size:=by omega
      have hg:xs[(lo+hi) / 2]?=some (xs.getD ((lo+hi) / 2) j):=by
        rw [Array.getD_eq_getD_getElem?,Array.getElem?_eq_getElem hm]
        rfl
      generalize xs.getD ((lo+hi) / 2) j=m at hg ⊢
      by_cases hq:m < j
      · rw [if_pos hq]
        refine ih _ _ h1 (by omega) (by omega) (fun i v hi' hv=>?_) h5
        rcases Nat.lt_or_ge i ((lo+hi) / 2) with z | z
        · exact Nat.lt_trans (h.lt z hv hg) hq
        · obtain rfl:i=(lo+hi) / 2:=by omega
          rw [hg] at hv
          cases hv
          exact hq
      · rw [if_neg hq]
        refine ih _ _ (by omega) (by omega) (by omega) h4 fun i v hi' hv=>?_
        rcases Nat.lt_or_ge ((lo+hi) / 2) i with z | z
        · have:=h.lt z hg hv
          omega
        · obtain rfl:i=(lo+hi) / 2:=by omega
          rw [hg] at hv
          cases hv
          omega
    · rw [if_neg hl]
      exact ⟨by omega,h4,fun i v hi'=>h5 i v (by omega)⟩
theorem below_spec {xs:Array Nat} {j:Nat} (h:Up xs):below xs j≤xs.size∧(∀ i v,i < below xs j→xs[i]?=some v→v < j)∧(∀ i v,below xs j≤i→xs[i]?=some v→j≤v):=by
  unfold SetTable.below
  refine below_go h _ _ _ (Nat.le_refl _) (Nat.zero_le _) (by omega) (fun i v hi=>absurd hi (Nat.not_lt_zero _)) fun i v hi hv=>?_
  rw [Array.getElem?_eq_none hi] at hv
  cases hv
theorem below_at {xs:Array Nat} {j i:Nat} (h:Up xs) (hi:i≤xs.size) (h1:∀ k v,k < i→xs[k]?=some v→v < j) (h2:∀ k v,i≤k→xs[k]?=some v→j≤v):below xs j=i:=by
  obtain ⟨a,b,c⟩:=below_spec (j:=j) h
  rcases Nat.lt_trichotomy (below xs j) i with z | z | z
  · have e:=Array.getElem?_eq_getElem (xs:=xs) (i:=below xs j) (by omega)
    have:=h1 _ _ z e
    have:=c _ _ (Nat.le_refl _) e
    omega
  · exact z
  · have e:=Array.getElem?_eq_getElem (xs:=xs) (i:=i) (by omega)
    have:=h2 _ _ (Nat.le_refl _) e
    have:=b _ _ z e
    omega
theorem below_zero {xs:Array Nat} (h:Up xs):below xs 0=0:=below_at h (Nat.zero_le _) (fun k v hk=>absurd hk (Nat.not_lt_zero _)) fun _ _ _ _=>Nat.zero_le _
theorem below_next {xs:Array Nat} {i v:Nat} (h:Up xs) (hv:xs[i]?=some v):below xs (v+1)=i+1:=by
  have hs:i < xs.size:=by
    rcases Nat.lt_or_ge i xs.size with z | z
    · exact z
    · rw [Array.getElem?_eq_none z] at hv
      cases hv
  refine below_at h hs (fun k u hk hu=>?_) fun k u hk hu=>h.lt hk hv hu
  rcases Nat.lt_or_ge k i with z | z
  · exact Nat.lt_succ_of_lt (h.lt z hu hv)
  · obtain rfl:k=i:=by omega
    rw [hv] at hu
    cases hu
    exact Nat.lt_succ_self _
theorem insert_list {α:Type} (xs:Array α) (p:Nat) (x:α):(SetTable.insertAt xs p x).toList=xs.toList.take p++x :: xs.toList.drop p:=by
  unfold SetTable.insertAt
  rw [Array.toList_append,Array.toList_push,Array.toList_extract,Array.toList_extract,List.extract_eq_take_drop,List.extract_eq_take_drop]
  have e:(xs.toList.drop p).take (xs.size - p)=xs.toList.drop p:=List.take_of_length_le (by rw [List.length_drop,Array.length_toList]; omega)
  rw [e,List.drop_zero,Nat.sub_zero,List.append_assoc]
  rfl
theorem insert_up {xs:Array Nat} {j:Nat} (h:Up xs) (hn:xs[below xs j]?≠some j):Up (SetTable.insertAt xs (below xs j) j):=by
  obtain ⟨a,b,c⟩:=below_spec (j:=j) h
  have h0:=h
  unfold Up at h0 ⊢
  rw [insert_list]
  rw [← List.take_append_drop (below xs j) xs.toList] at h0
  obtain ⟨p1,p2,p3⟩:=List.pairwise_append.mp h0
  have l1:∀ x∈xs.toList.take (below xs j),x < j:=fun x hx=>by
    obtain ⟨i,hi,e⟩:=List.mem_iff_getElem.mp hx
    rw [List.length_take] at hi
    rw [List.getElem_take] at e
    exact b i x (by omega) (by rw [← Array.getElem?_toList]; exact List.getElem?_eq_some_iff.mpr ⟨by omega,e⟩)
  have l2:∀ x∈xs.toList.drop (below xs j),j < x:=fun x hx=>by
    obtain ⟨i,hi,e⟩:=List.mem_iff_getElem.mp hx
    rw [List.length_drop] at hi
    rw [List.getElem_drop] at e
    have q:xs[below xs j+i]?=some x:=by rw [← Array.getElem?_toList]; exact List.getElem?_eq_some_iff.mpr ⟨by omega,e⟩
    have:=c _ _ (Nat.le_add_right _ _) q
    rcases Nat.lt_or_ge j x with z | z
    · exact z
    · exfalso
      obtain rfl:x=j:=by omega
      cases i with
      | zero=>exact hn q
      | succ i =>
        have e2:=Array.getElem?_eq_getElem (xs:=xs) (i:=below xs x) (by rw [Array.length_toList] at hi; omega)
        have:=h.lt (by omega) e2 q
        have:=c _ _ (Nat.le_refl _) e2
        omega
  refine List.pairwise_append.mpr ⟨p1,List.pairwise_cons.mpr ⟨l2,p2⟩,fun x hx y hy=>?_⟩
  rcases List.mem_cons.mp hy with rfl | hy
  · exact l1 x hx
  · exact p3 x hx y hy
theorem slot_empty {t:SetTable} {j:Nat} (h:t.slot j=.empty):t.place[below t.place j]?≠some j:=by
  intro e
  unfold SetTable.slot at h
  dsimp only at h
  rw [e] at h
  simp at h
theorem live_up (N:Nat) (f:Nat→Option Nat):Up (((List.range N).filterMap fun j=>(f j).map (j,·)).map (·.1)).toArray:=by
  show List.Pairwise (· < ·) (((List.range N).filterMap fun j=>(f j).map (j,·)).map (·.1))
  rw [List.map_filterMap,List.pairwise_filterMap]
  refine List.Pairwise.imp ?_ List.pairwise_lt_range
  intro a b hab x hx y hy
  cases ha:f a <;> rw [ha] at hx <;> simp at hx
  cases hb:f b <;> rw [hb] at hy <;> simp at hy
  omega
end ST
namespace ST
open PySem PySem.SetTable
theorem holes:∀ (N:Nat) (l:List Nat),(∀ r,r < N→r∈l)→N≤l.length:=by
  intro N
  induction N with
  | zero=>intro l _; exact Nat.zero_le _
  | succ N ih =>
    intro l h
    have h1:=h N (by omega)
    have:=ih (l.erase N) fun r hr=>(List.mem_erase_of_ne (by omega)).mpr (h r (by omega))
    rw [List.length_erase_of_mem h1] at this
    have:=List.length_pos_of_mem h1
    omega
theorem hole {N:Nat} {l:List Nat} (h:l.length < N):∃ r,r < N∧r ∉ l:=by
  by_cases z:∃ r,r < N∧r ∉ l
  · exact z
  · have:=holes N l fun r hr=>by
      by_cases q:r∈l
      · exact q
      · exact absurd ⟨r,hr,q⟩ z
    omega
structure TOk (t:SetTable) (n:Nat):Prop where
  k:∃ k,t.mask+1=2 ^ k
  d:t.dummies = #[]
  sz:t.place.size=n
  room:n≤t.mask
  o:t.mask % 2=1
  up:Up t.place
theorem TOk.empty {t:SetTable} {n:Nat} (h:TOk t n):∃ r,r≤t.mask∧t.slot r=.empty:=by
  obtain ⟨r,hr,hn⟩:=hole (N:=t.mask+1) (l:=t.place.toList) (by rw [Array.length_toList,h.sz]; have:=h.room; omega)
  refine ⟨r,by omega,?_⟩
  unfold SetTable.slot
  simp only
  rw [if_neg,if_neg]
  · unfold SetTable.has
    rw [h.d]
    simp
  · intro z
    refine hn ?_
    have z:=eq_of_beq z
    rw [← Array.getElem?_toList] at z
    exact List.mem_of_getElem? z
theorem TOk.dist {t:SetTable} {n:Nat} (h:TOk t n) {q:Probe} (hq:q.more≤9) (hp:q.perturb < 2 ^ 64):∃ d,d≤10 * (t.mask+14)∧Dist t q d:=by
  obtain ⟨k,hk⟩:=h.k
  obtain ⟨r,hr,he⟩:=h.empty
  obtain ⟨d,hd,e⟩:=meets hk hq hp hr
  obtain ⟨e',h1,h2⟩:=dist_ex d (by rw [e]; exact he)
  exact ⟨e',by omega,h2⟩
theorem start_ok (t:SetTable) (h:Int):(t.probeStart h).more≤9∧(t.probeStart h).perturb < 2 ^ 64∧(t.probeStart h).dummy=none:=by
  refine ⟨run_le _ _,?_,rfl⟩
  show bits h < 2 ^ 64
  unfold bits
  have h1:=Int.emod_nonneg h (b:=(2 ^ 64:Int)) (by decide)
  have h2:=Int.emod_lt_of_pos h (b:=(2 ^ 64:Int)) (by decide)
  omega
def vals (N:Nat) (owner:Array (Option Nat)):List Nat:=(List.range N).filterMap fun j=>owner.getD j none
theorem free_some {mask:Nat} {owner:Array (Option Nat)}:∀ (n fuel i p:Nat),n < fuel→(owner.getD (leapN mask n (i,p)).1 (some 0))=none→∃ j,SetTable.layClean.free mask owner fuel i p=some j∧owner.getD j (some 0)=none:=by
  intro n
  induction n with
  | zero =>
    intro fuel i p hf he
    obtain ⟨fuel,rfl⟩:∃ f,fuel=f+1:=⟨fuel - 1,by omega⟩
    unfold SetTable.layClean.free
    cases hq:(List.range (runEnd mask i+1 - i)).find? fun k=>(owner.getD (i+k) (some 0)).isNone with
    | some k =>
      refine ⟨i+k,rfl,?_⟩
      have:=List.find?_some hq
      simpa using this
    | none =>
      exfalso
      have h0:=List.find?_eq_none.mp hq 0 (List.mem_range.mpr (by unfold runEnd; split <;> omega))
      have he:owner.getD i (some 0)=none:=he
      refine h0 ?_
      show (owner.getD (i+0) (some 0)).isNone=true
      rw [Nat.add_zero,he]
      rfl
  | succ n ih =>
    intro fuel i p hf he
    obtain ⟨fuel,rfl⟩:∃ f,fuel=f+1:=⟨fuel - 1,by omega⟩
    unfold SetTable.layClean.free
    cases hq:(List.range (runEnd mask i+1 - i)).find? fun k=>(owner.getD (i+k) (some 0)).isNone with
    | some k =>
      refine ⟨i+k,rfl,?_⟩
      have:=List.find?_some hq
      simpa using this
    | none=>exact ih fuel _ _ (by omega) he
theorem vals_put {N j m:Nat} {owner:Array (Option Nat)} (hs:owner.size=N) (hj:owner.getD j (some 0)=none):(vals N (owner.setIfInBounds j (some m))).Perm (m :: vals N owner):=by
  have hlt:j < N:=by
    rw [← hs]
    rcases Nat.lt_or_ge j owner.size with h | h
    · exact h
    · rw [Array.getD_eq_getD_getElem?,Array.getElem?_eq_none h] at hj
      cases hj
  have hjn:owner.getD j none=none:=by
    rw [Array.getD_eq_getD_getElem?,Array.getElem?_eq_getElem (by omega)] at hj ⊢
    exact hj
  have hat:(owner.setIfInBounds j (some m)).getD j none=some m:=by
    rw [Array.getD_eq_getD_getElem?,Array.getElem?_setIfInBounds,if_pos rfl,if_pos (by omega)]
    rfl
  have hne:∀ i,i≠j→(owner.setIfInBounds j (some m)).getD i none=owner.getD i none:=fun i hi=>by
    rw [Array.getD_eq_getD_getElem?,Array.getD_eq_getD_getElem?,Array.getElem?_setIfInBounds,if_neg (by omega)]
  obtain ⟨r,rfl⟩:∃ r,N=j+(r+1):=⟨N - j - 1,by omega⟩
  have fc:∀ {f g:Nat→Option Nat} {l:List Nat},(∀ x∈l,f x=g x)→l.filterMap f=l.filterMap g:=fun {f g l} h=>by
    induction l with
    | nil=>rfl
    | cons x l ih=>rw [List.filterMap_cons,List.filterMap_cons,h x List.mem_cons_self,ih fun y hy=>h y (List.mem_cons_of_mem _ hy)]
  have e:List.range (j+(r+1))=List.range j++j :: (List.range r).map fun x=>j+(x+1):=by
    rw [List.range_add,List.range_succ_eq_map,List.map_cons,List.map_map]
    rfl
  unfold vals
  rw [e,List.filterMap_append,List.filterMap_append,List.filterMap_cons,List.filterMap_cons,hat,hjn]
  rw [fc (g:=fun i=>owner.getD i none) fun x hx=>hne x (by have:=List.mem_range.mp hx; omega)]
  rw [fc (f:=fun i=>(owner.setIfInBounds j (some m)).getD i none) (g:=fun i=>owner.getD i none) (l:=(List.range r).map fun x=>j+(x+1)) fun x hx=>by
    obtain ⟨y,_,rfl⟩:=List.mem_map.mp hx
    exact hne _ (by omega)]
  exact List.perm_middle
theorem vals_new (N:Nat):vals N (Array.replicate N none)=[]:=by
  unfold vals
  rw [List.filterMap_eq_nil_iff]
  intro j hj
  rw [Array.getD_eq_getD_getElem?,Array.getElem?_replicate]
  split <;> rfl
theorem some_free {mask:Nat} {owner:Array (Option Nat)} (hs:owner.size=mask+1) (h:(vals (mask+1) owner).length≤mask):∃ r,r≤mask∧owner.getD r (some 0)=none:=by
  by_cases z:∃ r,r≤mask∧owner.getD r (some 0)=none
  · exact z
  · exfalso
    have:(vals (mask+1) owner).length=mask+1:=by
      unfold vals
      have:∀ l:List Nat,(∀ x∈l,x≤mask)→(l.filterMap fun j=>owner.getD j none).length=l.length:=fun l hl=>by
        induction l with
        | nil=>rfl
        | cons x l ih =>
          have hx:=hl x List.mem_cons_self
          have hv:∃ v,owner.getD x none=some v:=by
            rw [Array.getD_eq_getD_getElem?,Array.getElem?_eq_getElem (by omega)]
            cases q:owner[x] with
            | none=>exact absurd ⟨x,hx,by rw [Array.getD_eq_getD_getElem?,Array.getElem?_eq_getElem (by omega),q]; rfl⟩ z
            | some v=>exact ⟨v,rfl⟩
          obtain ⟨v,hv⟩:=hv
          rw [List.filterMap_cons,hv]
          show (l.filterMap _).length+1=l.length+1
          rw [ih fun y hy=>hl y (List.mem_cons_of_mem _ hy)]
      rw [this _ fun x hx=>by have:=List.mem_range.mp hx; omega,List.length_range]
    omega
theorem lay_fold {mask k:Nat} (hm:mask+1=2 ^ k):∀ (hs:List Int) (owner:Array (Option Nat)) (m:Nat),owner.size=mask+1→(vals (mask+1) owner).Perm (List.range m)→m+hs.length≤mask →
    ∃ owner':Array (Option Nat),(hs.foldl (fun (acc:Option (Array (Option Nat) × Nat)) h=>do
      let (owner,k) ← acc
      let j ← SetTable.layClean.free mask owner (turns mask) (bits h % (mask+1)) (bits h)
      pure (owner.setIfInBounds j (some k),k+1)) (some (owner,m)))=some (owner',m+hs.length)∧owner'.size=mask+1∧(vals (mask+1) owner').Perm (List.range (m+hs.length)):=by
  intro hs
  induction hs with
  | nil=>intro owner m h1 h2 _; exact ⟨owner,rfl,h1,h2⟩
  | cons h hs ih =>
    intro owner m h1 h2 h3
    rw [List.length_cons] at h3
    obtain ⟨r,hr,he⟩:=some_free h1 (by rw [h2.length_eq,List.length_range]; omega)
    have hb:bits h < 2 ^ 64:=(start_ok (SetTable.fresh 0 0 true) h).2.1
    obtain ⟨n,_,hn,e⟩:=leaps_all hm (i:=bits h % (mask+1)) hb hr
    obtain ⟨j,hj1,hj2⟩:=free_some n (turns mask) (bits h % (mask+1)) (bits h) (by unfold turns; omega) (by rw [e]; exact he)
    have hp:(vals (mask+1) (owner.setIfInBounds j (some m))).Perm (List.range (m+1)):=by
      refine (vals_put h1 hj2).trans ?_
      rw [List.range_succ]
      exact (h2.cons m).trans (List.perm_append_singleton m (List.range m)).symm
    obtain ⟨o',q1,q2,q3⟩:=ih (owner.setIfInBounds j (some m)) (m+1) (by rw [Array.size_setIfInBounds]; exact h1) hp (by omega)
    refine ⟨o',?_,q2,?_⟩
    · rw [List.foldl_cons,List.length_cons,show m+(hs.length+1)=m+1+hs.length by omega,← q1]
      congr 1
      show (SetTable.layClean.free mask owner (turns mask) (bits h % (mask+1)) (bits h)).bind _=_
      rw [hj1]
      rfl
    · rw [List.length_cons,show m+(hs.length+1)=m+1+hs.length by omega]
      exact q3
theorem laid_ok {mask k finger moves:Nat} {led plain:Bool} {hashes:Array Int} (hm:mask+1=2 ^ k) (ho:mask % 2=1) (hn:hashes.size≤mask):∃ (t:SetTable) (order:Array Nat),SetTable.laid mask finger moves led plain hashes=some (t,order)∧TOk t hashes.size∧order.toList.Perm (List.range hashes.size)∧t.mask=mask∧t.plain=plain∧t.led=led:=by
  obtain ⟨o',h1,h2,h3⟩:=lay_fold hm hashes.toList (Array.replicate (mask+1) none) 0 (Array.size_replicate ..) (by rw [vals_new]; exact List.Perm.refl _) (by rw [Array.length_toList]; omega)
  rw [Nat.zero_add,Array.length_toList] at h1 h3
  have hl:SetTable.layClean mask hashes=some o':=by
    unfold SetTable.layClean
    rw [← Array.foldl_toList,h1]
    rfl
  have hv:(((List.range (mask+1)).filterMap fun j=>(o'.getD j none).map (j,·)).map (·.2))=vals (mask+1) o':=by
    unfold vals
    rw [List.map_filterMap]
    congr 1
    funext j
    cases o'.getD j none <;> rfl
  have hlen:((List.range (mask+1)).filterMap fun j=>(o'.getD j none).map (j,·)).length=hashes.size:=by
    have:=congrArg List.length hv
    rw [List.length_map] at this
    rw [this,h3.length_eq,List.length_range]
  refine ⟨_,_,by unfold SetTable.laid; rw [hl]; rfl,⟨⟨k,hm⟩,rfl,?_,hn,ho,live_up _ _⟩,?_,rfl,rfl,rfl⟩
  · show (((List.range (mask+1)).filterMap fun j=>(o'.getD j none).map (j,·)).map (·.1)).toArray.size=_
    rw [List.size_toArray,List.length_map,hlen]
  · show (((List.range (mask+1)).filterMap fun j=>(o'.getD j none).map (j,·)).map (·.2)).toArray.toList.Perm _
    rw [List.toList_toArray,hv]
    exact h3
theorem size_go:∀ (fuel a n:Nat),∃ k,SetTable.sizeAbove.go n fuel (2 ^ a)=2 ^ k∧a≤k∧(n < 2 ^ (a+fuel)→n < 2 ^ k)∧(k=a∨2 ^ k≤2 * n):=by
  intro fuel
  induction fuel with
  | zero=>intro a n; exact ⟨a,rfl,Nat.le_refl _,fun h=>h,.inl rfl⟩
  | succ fuel ih =>
    intro a n
    unfold SetTable.sizeAbove.go
    by_cases h:2 ^ a≤n
    · rw [if_pos h,show 2 ^ a * 2=2 ^ (a+1) from (Nat.pow_succ ..).symm]
      obtain ⟨k,e,h1,h2,h3⟩:=ih (a+1) n
      refine ⟨k,e,by omega,fun z=>h2 (by rw [show a+1+fuel=a+(fuel+1) by omega]; exact z),?_⟩
      rcases h3 with h3 | h3
      · refine .inr ?_
        rw [h3,Nat.pow_succ]
        omega
      · exact .inr h3
    · rw [if_neg h]
      exact ⟨a,rfl,Nat.le_refl _,fun _=>by omega,.inl rfl⟩
theorem sizeAbove_ok {n:Nat} (h:n < 2 ^ 60):∃ k,SetTable.sizeAbove n=2 ^ k∧3≤k∧n < 2 ^ k∧(2 ^ k=8∨2 ^ k≤2 * n):=by
  obtain ⟨k,e,h1,h2,h3⟩:=size_go 64 3 n
  refine ⟨k,e,h1,h2 (Nat.lt_trans h (by decide)),?_⟩
  rcases h3 with rfl | h3
  · exact .inl rfl
  · exact .inr h3
theorem relaid_ok {t:SetTable} {hashes:Array Int} {wanted:Nat} (hw:wanted < 2 ^ 60) (hn:hashes.size≤wanted) (h0:1≤wanted):∃ (t':SetTable) (order:Array Nat),t.relaid hashes wanted=some (t',order)∧TOk t' hashes.size∧order.toList.Perm (List.range hashes.size)∧t'.plain=t.plain∧t'.led=t.led∧(t'.mask≤7∨t'.mask+1≤2 * wanted)∧wanted≤t'.mask:=by
  obtain ⟨k,e,h1,h2,h3⟩:=sizeAbove_ok hw
  obtain ⟨t',order,q1,q2,q3,q4,q5,q6⟩:=laid_ok (mask:=2 ^ k - 1) (k:=k) (finger:=t.finger) (moves:=t.movedTo (2 ^ k - 1)) (led:=t.led) (plain:=t.plain) (hashes:=hashes) (by omega) (by obtain ⟨r,rfl⟩:∃ r,k=r+1:=⟨k - 1,by omega⟩; rw [Nat.pow_succ] at h2 ⊢; omega) (by omega)
  refine ⟨t',order,by unfold SetTable.relaid; rw [e]; exact q1,q2,q3,q5,q6,by rw [q4]; omega,by rw [q4]; omega⟩
end ST
namespace ST
open PySem PySem.SetTable
section
variable {prog:Program} {w:World} {A:Around} {E:Value→Shared→Prop} {s:Shared}
structure EntOf (prog:Program) (w:World) (h:Heap) (es:Array (Int × Value)) (kas:List (List Int × Addr)):Prop where
  e:es.toList=kas.map fun p=>(tupleKeyHash (intKind prog w) p.1,Value.ref p.2)
  k:∀ p∈kas,IsTupleKey (intKind prog w) h p.1 p.2
end
end ST
namespace ST
open PySem PySem.SetTable
section
variable {prog:Program} {w:World} {A:Around} {E:Value→Shared→Prop} {s:Shared}
theorem perm_ex {α β:Type} {f:α→β} {xs ds:List β} (h:xs.Perm ds):∀ {l:List α},l.map f=xs→∃ ss:List α,ss.Perm l∧ds=ss.map f:=by
  induction h with
  | nil=>intro l e; exact ⟨[],by rw [List.map_eq_nil_iff.mp e],rfl⟩
  | cons x _ ih =>
    intro l e
    cases l with
    | nil=>cases e
    | cons y l =>
      rw [List.map_cons] at e
      injection e with e1 e2
      obtain ⟨ss,p,q⟩:=ih e2
      exact ⟨y :: ss,p.cons y,by rw [List.map_cons,e1,q]⟩
  | swap x y zs =>
    intro l e
    match l,e with
    | a :: b :: l,e =>
      rw [List.map_cons,List.map_cons] at e
      injection e with e1 e2
      injection e2 with e2 e3
      exact ⟨b :: a :: l,List.Perm.swap a b l,by rw [List.map_cons,List.map_cons,e1,e2,e3]⟩
  | trans _ _ ih1 ih2 =>
    intro l e
    obtain ⟨ss,p,q⟩:=ih1 e
    obtain ⟨ts,p2,q2⟩:=ih2 q.symm
    exact ⟨ts,p2.trans p,q2⟩
structure TupSet (prog:Program) (w:World) (h:Heap) (S:Addr) (kas:List (List Int × Addr)):Prop where
  ex:∃ (o:Obj) (es:Array (Int × Value)) (ep:Nat) (t:SetTable) (kas':List (List Int × Addr)),h.get? S=some o∧o.ExactSet∧o.data=.set es ep t∧TOk t es.size∧es.size * 5 < t.mask * 3∧t.plain=true∧(w.params.followText "set-order" = true∨t.led=true)∧t.mask≤8000∧kas'.Perm kas∧EntOf prog w h es kas'
theorem insert_perm {α:Type} (xs:Array α) (p:Nat) (x:α):(SetTable.insertAt xs p x).toList.Perm (x :: xs.toList):=by
  unfold SetTable.insertAt
  rw [Array.toList_append,Array.toList_push,Array.toList_extract,Array.toList_extract,List.extract_eq_take_drop,List.extract_eq_take_drop]
  have e:(xs.toList.drop p).take (xs.size - p)=xs.toList.drop p:=List.take_of_length_le (by rw [List.length_drop,Array.length_toList]; omega)
  rw [e,List.drop_zero,Nat.sub_zero,List.append_assoc]
  refine (List.perm_middle (a:=x)).trans ?_
  show (x :: (List.take p xs.toList++List.drop p xs.toList)).Perm (x :: xs.toList)
  rw [List.take_append_drop]
theorem insert_size {α:Type} (xs:Array α) (p:Nat) (x:α):(SetTable.insertAt xs p x).size=xs.size+1:=by
  have:=(insert_perm xs p x).length_eq
  rw [Array.length_toList,List.length_cons,Array.length_toList] at this
  exact this
end
end ST
namespace SX
open PySem PySem.Spec PyProof.Rows
section
variable {prog:Program} {w:World} {A:Around} {R:Result→Shared→Prop} {I:Addr} {fp wr:List Addr} {G:Array GenState→Array GenState→Prop} {n:Nat} {P:Nat→Value→Prop} {St:Nat→Shared→Prop}
end
set_option maxHeartbeats 6400000 in
theorem code_set_newL {prog:Program} {w:World} {A:Around} {E:Value→Shared→Prop} {s:Shared} (a:Value) {Q₁:Value→Shared→Prop}
    (h:Q₁ (.ref s.heap.objs.size) { s with heap:=s.heap.push { cls:=.type "set",dict:=none,data:=.set #[] 0 (.fresh 0 0 (!w.params.followText "set-order")) } }) :
    codeAny (model prog w) A (.call (.builtin "set.__new__") ⟨[.type "set",a],[]⟩) (wants Q₁ E) s:=by
  refine codeAny_of_tree ?_
  show wpAny _ A.in1 (do checkBuiltinCall "set.__new__" ⟨[.type "set",a],[]⟩; again (.builtin "set.__new__" ⟨[.type "set",a],[]⟩)) _ _ s
  refine wpAny_bind (wpAny_of_eq (F.newCall_set_1 a) (wpAny_pure ⟨plainId_quiet F.plain_set_new _,codeAny_builtin F.entry_set_new ?_⟩))
  rw [Around.under_plainId F.plain_set_new _]
  unfold Builtin.«set.__new__» Builtin.Frozenset.newClass
  have hsub:=sub_set_self
  obtain ⟨hp,g,d,tk,os⟩:=s
  dsimp only
  wp_walk
  refine wpAny_askSetting (wpAny_pure ?_)
  dsimp only
  simp only [newObj]
  refine wpAny_bind (wpAny_alloc (wpAny_pure ?_))
  exact wpAny_pure h
end SX
namespace SA
open PySem PySem.Spec PyProof.Rows
theorem erase_perm {α:Type} {l:List α} {i:Nat} (h:i < l.length):(l[i] :: l.eraseIdx i).Perm l:=by
  have e:l=l.take i++l[i] :: l.drop (i+1):=by
    rw [List.getElem_cons_drop,List.take_append_drop]
  rw [List.eraseIdx_eq_take_drop_succ]
  exact (List.perm_middle.symm).trans (by rw [← e])
theorem go_perm {α:Type} (next:Nat→Nat):∀ (fuel k:Nat) (left:List α) (out:Array α),left.length≤fuel→(pickOrder.go next fuel k left out).toList.Perm (out.toList++left)
  | 0,k,left,out,h=>by
    have e:left=[]:=List.length_eq_zero_iff.mp (by omega)
    subst e
    rw [pickOrder.go,List.append_nil]
  | fuel+1,k,left,out,h=>by
    rw [pickOrder.go]
    cases hx:left[next k % left.length]? with
    | none =>
      have e:left=[]:=by
        cases left with
        | nil=>rfl
        | cons a r =>
          have:=List.getElem?_eq_none_iff.mp hx
          have:=Nat.mod_lt (next k) (show 0 < (a :: r).length by simp)
          omega
      subst e
      rw [List.append_nil]
    | some x =>
      obtain ⟨hi,ex⟩:=List.getElem?_eq_some_iff.mp hx
      refine (go_perm next fuel (k+1) (left.eraseIdx (next k % left.length)) (out.push x) ?_).trans ?_
      · rw [List.length_eraseIdx_of_lt hi]
        omega
      · rw [Array.toList_push,List.append_assoc]
        refine List.Perm.append_left _ ?_
        rw [← ex]
        exact erase_perm hi
theorem pick_perm {α:Type} (next:Nat→Nat) (xs:Array α):(pickOrder next xs).toList.Perm xs.toList:=by
  have:=go_perm next xs.size 0 xs.toList #[] (by simp)
  simpa [pickOrder] using this
section
variable {prog:Program} {w:World} {K:Type} [DecidableEq K] {knd:KeyKind prog w K} {A:Around} {E:Value→Shared→Prop} {s:Shared}
end
end SA
namespace SI
open PySem PySem.Spec PyProof.Rows PySem.SetTable
theorem slot_set_iterator_next:Slot "set_iterator" "__next__" "set_iterator.__next__" :=
  .of (owner:="set_iterator") (n:="__next__") (by rw [typeLookup_type,builtinLookup_eq_fast]; kernel_rfl) (by decide +kernel) (by decide +kernel) (by decide +kernel)
    (by first | exact .inl (by decide +kernel) | exact .inr (by decide +kernel)) (by rw [isSubtype_type]; kernel_rfl)
theorem entry_set_iterator_next:entryFor table "set_iterator.__next__" = some Builtin.«set_iterator.__next__»:=entryFor_of_tree (by kernel_rfl)
theorem owner_set_iterator:Manifest.owners.lookup (String.ofList ['r', 'o', 't', 'a', 'r', 'e', 't', 'i', '_', 't', 'e', 's'].reverse)=some Manifest.sig_set_iterator:=by kernel_rfl
theorem args_set_iterator_next_1 (a:Value):argsOk "set_iterator.__next__" ⟨[a],[]⟩:=by
  unfold argsOk; rw [signature?_of (id:="set_iterator.__next__") (n:=['_', '_', 't', 'x', 'e', 'n', '_', '_']) (o:=['r', 'o', 't', 'a', 'r', 'e', 't', 'i', '_', 't', 'e', 's']) (by kernel_rfl) owner_set_iterator]; kernel_rfl
theorem entry_set_iter:entryFor table "set.__iter__" = some Builtin.«frozenset.__iter__»:=entryFor_alias (id':="frozenset.__iter__") (by kernel_rfl) rfl (by decide +kernel) (by kernel_rfl)
def itO (slot i:Nat) (S:Addr) (n ep:Nat):Obj:={ cls:=.type "set_iterator",data:=.fields #[.int slot 0,.int i 0,.ref S,.int n 0,.int ep 0] }
section
variable {prog:Program} {w:World} {A:Around} {E:Value→Shared→Prop} {s:Shared} {I S:Addr} {o:Obj} {es:Array (Int × Value)} {ep slot i:Nat} {t:SetTable}
def byT (w:World):Bool:=w.params.followText "set-order"
def ord (w:World) (S:Addr) (es:Array (Int × Value)) (ep:Nat):Array (Int × Value):=if byT w=true then pickOrder (w.params.setOrder S ep) es else es
theorem iter_set {Q:Value→Shared→Prop} (ho:s.heap.get? S=some o) (hc:o.cls=.type "set") (hd:o.data=.set es ep t) (hf:t.fits es.size=true) (hpl:t.plain=true)
    (q:Q (.ref s.heap.objs.size) { s with heap:=s.heap.push (itO 0 0 S es.size ep) }):wpAny (model prog w) A (pyIter (.ref S)) Q E s:=by
  have ty:s.TypeIs (.ref S) "set":=⟨o,ho,hc⟩
  refine wpAny_pyIter_slot ty PySem.F.slot_set_iter (wpAny_call_entry PySem.F.slot_set_iter ty entry_set_iter ?_ (PySem.F.args_set_iter_1 _))
  unfold Builtin.«frozenset.__iter__» Builtin.Frozenset.slot0
  refine wpAny_bind (wpAny_bind (wpAny_pure (wpAny_pure ?_)))
  unfold Builtin.Frozenset.sizeOf
  refine wpAny_bind (wpAny_bind (wpAny_setEntries_of ho hd hf (wpAny_pure ?_)))
  unfold setDrawn setsByText
  refine wpAny_bind (wpAny_bind (wpAny_setState_of ho hd hf (wpAny_bind (wpAny_bind (wpAny_askSetting (wpAny_pure (wpAny_pure ?_)))))))
  refine wpAny_ite_split (fun hb=>absurd (show (_ && (!t.plain && decide (es.size > 1)))=true from hb) (by rw [hpl]; simp)) fun _=>wpAny_bind (wpAny_pure ?_)
  unfold setEpoch
  refine wpAny_bind (wpAny_bind (wpAny_setState_of ho hd hf (wpAny_pure ?_)))
  unfold newFields
  refine wpAny_bind (wpAny_newObj_type (wpAny_pure ⟨_,rfl, "set_iterator",_,⟨_,Heap.get?_push_size _ rfl,rfl⟩,slot_set_iterator_next.lookup,?_⟩) (by simp [sizeOk,sizeLine_eq]))
  exact q
theorem next_walk {Q:Option (Value × Nat)→Shared→Prop} (ho:s.heap.get? S=some o) (hd:o.data=.set es ep t) (hf:t.fits es.size=true) (hsz:t.place.size=es.size) (hup:ST.Up t.place) (hpl:t.plain=true)
    (hbl:byT w=false→t.led=true∧below t.place slot=i)
    (q1:∀ e slot',(ord w S es ep)[i]?=some e→(byT w=false→below t.place slot'=i+1)→Q (some (e.2,slot')) s)
    (q2:(ord w S es ep)[i]?=none→Q none s):wpAny (model prog w) A (setNext S slot i ep) Q E s:=by
  unfold setNext setsByText
  refine wpAny_bind (wpAny_setState_of ho hd hf (wpAny_bind (wpAny_bind (wpAny_askSetting (wpAny_pure ?_)))))
  refine wpAny_ite_split (fun hb=>?_) fun hb=>?_
  · have hb:byT w=true:=hb
    rw [if_neg (by simp)]
    refine wpAny_bind ?_
    unfold setWalk setsByText
    refine wpAny_bind (wpAny_setState_of ho hd hf (wpAny_bind (wpAny_bind (wpAny_askSetting (wpAny_pure ?_)))))
    refine wpAny_ite_split (fun _=>?_) fun hn=>absurd hb hn
    refine wpAny_bind (wpAny_askSetting (wpAny_pure (wpAny_pure ?_)))
    have e:ord w S es ep=pickOrder (w.params.setOrder S ep) es:=by unfold ord; rw [if_pos hb]
    show Q (Option.map (fun e=>(e.2,slot)) (pickOrder (w.params.setOrder S ep) es)[i]?) s
    rw [← e]
    cases hx:(ord w S es ep)[i]? with
    | none=>exact q2 hx
    | some x=>exact q1 x slot hx fun z=>absurd (hb.symm.trans z) (by decide)
  · have hb:byT w=false:=by
      cases z:byT w with
      | false=>rfl
      | true=>exact absurd z hb
    obtain ⟨hl,hbl⟩:=hbl hb
    refine wpAny_ite_split (fun hb=>absurd (show (!t.plain && decide (es.size > 1))=true from hb) (by rw [hpl]; simp)) fun _=>?_
    refine wpAny_bind ?_
    show wpAny _ _ (if (!t.led && !es.isEmpty)=true then _ else _) _ _ _
    rw [if_neg (by rw [hl]; simp)]
    refine wpAny_pure ?_
    dsimp only
    rw [hbl]
    have e:ord w S es ep=es:=by unfold ord; rw [if_neg (by rw [hb]; decide)]
    rw [e] at q1 q2
    cases hx:es[i]? with
    | none=>exact wpAny_pure (q2 hx)
    | some x =>
      have hi:i < es.size:=(Array.getElem?_eq_some_iff.mp hx).1
      have hp:t.place[i]?=some (t.place[i]'(by omega)):=Array.getElem?_eq_getElem (by omega)
      rw [hp]
      exact wpAny_pure (q1 x _ hx fun _=>ST.below_next hup hp)
theorem next_set {Q:Option Value→Shared→Prop} (ti:s.heap.get? I=some (itO slot i S es.size ep)) (ho:s.heap.get? S=some o) (hd:o.data=.set es ep t) (hf:t.fits es.size=true) (hsz:t.place.size=es.size) (hup:ST.Up t.place) (hpl:t.plain=true)
    (hbl:byT w=false→t.led=true∧below t.place slot=i) (hi:(ord w S es ep)[i]?≠none)
    (q:∀ g e slot',(ord w S es ep)[i]?=some e→g.get? I=some (itO slot' (i+1) S es.size ep)→Heap.SameBut I s.heap g→(byT w=false→below t.place slot'=i+1)→Q (some e.2) { s with heap:=g }):wpAny (model prog w) A (pyNext (.ref I)) Q E s:=by
  have ty:s.TypeIs (.ref I) "set_iterator":=⟨_,ti,rfl⟩
  unfold pyNext
  refine wpAny_bind (wpAny_attempt (wpAny_callSpecial?_slot (name:=Str.ofString "__next__") ty slot_set_iterator_next (wpAny_call_entry slot_set_iterator_next ty entry_set_iterator_next ?_ (args_set_iterator_next_1 _))))
  unfold Builtin.«set_iterator.__next__»
  refine wpAny_bind (wpAny_pure (wpAny_bind (wpAny_fieldsOf ti rfl ?_)))
  show wpAny _ _ (setEntries S >>= _) _ _ _
  refine wpAny_bind (wpAny_setEntries_of ho hd hf ?_)
  rw [if_neg (by simp)]
  dsimp only
  rw [Int.toNat_natCast,Int.toNat_natCast,Int.toNat_natCast]
  refine wpAny_bind (next_walk ho hd hf hsz hup hpl hbl (fun e slot' he hs=>?_) fun z=>absurd z hi)
  dsimp only
  refine wpAny_bind (wpAny_setField_rec ti (by simp) fun g1 f1 b1=>?_)
  replace f1:g1.get? I=some (itO slot' i S es.size ep):=f1
  refine wpAny_bind (wpAny_setField_rec f1 (by simp) fun g2 f2 b2=>?_)
  replace f2:g2.get? I=some (itO slot' (i+1) S es.size ep):=by
    have z:((i+1:Nat):Int)=(i:Int)+1:=by omega
    unfold itO; rw [z]; simpa [rawInt] using f2
  replace b1:Heap.SameBut I s.heap g1:=b1
  replace b2:Heap.SameBut I g1 g2:=b2
  exact wpAny_pure ⟨_,rfl,wpAny_pure (q g2 e slot' he f2 (b1.trans b2) hs)⟩
theorem end_set {Q:Option Value→Shared→Prop} (hh:A.handled=none) (ti:s.heap.get? I=some (itO slot i S es.size ep)) (ho:s.heap.get? S=some o) (hd:o.data=.set es ep t) (hf:t.fits es.size=true) (hsz:t.place.size=es.size) (hup:ST.Up t.place) (hpl:t.plain=true)
    (hbl:byT w=false→t.led=true∧below t.place slot=i) (hi:(ord w S es ep)[i]?=none)
    (q:∀ g,Heap.ExtBut I s.heap g→Q none { s with heap:=g }):wpAny (model prog w) A (pyNext (.ref I)) Q E s:=by
  have ty:s.TypeIs (.ref I) "set_iterator":=⟨_,ti,rfl⟩
  unfold pyNext
  refine wpAny_bind (wpAny_attempt (wpAny_callSpecial?_slot (name:=Str.ofString "__next__") ty slot_set_iterator_next (wpAny_call_entry slot_set_iterator_next ty entry_set_iterator_next ?_ (args_set_iterator_next_1 _))))
  unfold Builtin.«set_iterator.__next__»
  refine wpAny_bind (wpAny_pure (wpAny_bind (wpAny_fieldsOf ti rfl ?_)))
  show wpAny _ _ (setEntries S >>= _) _ _ _
  refine wpAny_bind (wpAny_setEntries_of ho hd hf ?_)
  rw [if_neg (by simp)]
  dsimp only
  rw [Int.toNat_natCast,Int.toNat_natCast,Int.toNat_natCast]
  refine wpAny_bind (next_walk ho hd hf hsz hup hpl hbl (fun e slot' he hs=>absurd (he.symm.trans hi) (by simp)) fun _=>?_)
  dsimp only
  refine wpAny_bind (wpAny_setField ti rfl (by simp) ?_)
  refine wpAny_bind ?_
  simp only [newExc,newTuple]
  refine wpAny_bind (wpAny_newObj_type ?_ (by size_fits)); refine wpAny_bind (m:=firstArgMember _ _) (wpAny_of_eq (a:=Value.none) (by first | rfl | (simp only [firstArgMember]; rfl)) ?_)
  refine wpAny_newObj_type ?_ (by size_fits)
  simp only [raiseNew]
  refine wpAny_bind (wpAny_handled ?_); rw [show A.in1.handled=none from hh]
  refine wpAny_bind (wpAny_pure (wpAny_throw ?_))
  refine wpAny_bind (wpAny_isInstance (T:="StopIteration") (b:=true) ⟨_,Heap.get?_push_size _ rfl,rfl⟩ isSubtype_stop ?_)
  exact wpAny_pure (q _ (((Heap.SameBut.update ..).extBut.push _).push _))
end
end SI
namespace SI
open PySem PySem.Spec PyProof.Rows PySem.SetTable
theorem slot_set_iterator_iter:Slot "set_iterator" "__iter__" "set_iterator.__iter__" :=
  .of (owner:="set_iterator") (n:="__iter__") (by rw [typeLookup_type,builtinLookup_eq_fast]; kernel_rfl) (by decide +kernel) (by decide +kernel) (by decide +kernel)
    (by first | exact .inl (by decide +kernel) | exact .inr (by decide +kernel)) (by rw [isSubtype_type]; kernel_rfl)
theorem entry_set_iterator_iter:entryFor table "set_iterator.__iter__" = some Builtin.«dict_keyiterator.__iter__»:=entryFor_alias (id':="dict_keyiterator.__iter__") (by kernel_rfl) rfl (by decide +kernel) (by kernel_rfl)
theorem args_set_iterator_iter_1 (a:Value):argsOk "set_iterator.__iter__" ⟨[a],[]⟩:=by
  unfold argsOk; rw [signature?_of (id:="set_iterator.__iter__") (n:=['_', '_', 'r', 'e', 't', 'i', '_', '_']) (o:=['r', 'o', 't', 'a', 'r', 'e', 't', 'i', '_', 't', 'e', 's']) (by kernel_rfl) owner_set_iterator]; kernel_rfl
theorem len_of_set:typeLookup (.type "set") "__len__" = pure (some (.builtin "set.__len__")):=by rw [typeLookup_type,builtinLookup_eq_fast]; kernel_rfl
section
variable {prog:Program} {w:World} {A:Around} {E:Value→Shared→Prop} {s:Shared} {I S:Addr} {o:Obj} {es:Array (Int × Value)} {ep slot i:Nat} {t:SetTable}
theorem ord_perm:(ord w S es ep).toList.Perm es.toList:=by
  unfold ord
  split
  · exact SA.pick_perm _ _
  · exact List.Perm.refl _
theorem ord_size:(ord w S es ep).size=es.size:=by
  have:=(ord_perm (w:=w) (S:=S) (es:=es) (ep:=ep)).length_eq
  rw [Array.length_toList,Array.length_toList] at this
  exact this
def StS (w:World) (I S:Addr) (o:Obj) (es:Array (Int × Value)) (ep:Nat) (t:SetTable) (i:Nat) (s:Shared):Prop :=
  ∃ slot,s.heap.get? I=some (itO slot i S es.size ep)∧s.heap.get? S=some o∧(byT w=false→below t.place slot=i)
theorem walks (hh:A.handled=none) (hIS:S≠I) (hd:o.data=.set es ep t) (hf:t.fits es.size=true) (hsz:t.place.size=es.size) (hup:ST.Up t.place) (hpl:t.plain=true) (hld:byT w=false→t.led=true) :
    WalksS prog w A I [I,S] [I] (fun a b=>b=a) es.size (fun i v=>∃ e,(ord w S es ep)[i]?=some e∧v=e.2) (StS w I S o es ep t) where
  sub:=fun b hb=>by
    rcases List.mem_singleton.mp hb with rfl
    exact List.mem_cons_self
  grefl:=fun _=>rfl
  gtrans:=fun _ _ _ h1 h2=>h2.trans h1
  frame:=fun i s h' tk ⟨slot,h1,h2,h3⟩ _ hk=>⟨slot,hk I List.mem_cons_self _ h1,hk S (List.mem_cons_of_mem _ List.mem_cons_self) _ h2,h3⟩
  item:=fun i s Q E hi ⟨slot,h1,h2,h3⟩ hQ=>by
    refine next_set h1 h2 hd hf hsz hup hpl (fun z=>⟨hld z,h3 z⟩) ?_ fun g e slot' he hg hs hb=>?_
    · rw [Array.getElem?_eq_getElem (by rw [ord_size]; exact hi)]
      exact fun z=>nomatch z
    · refine hQ _ _ ⟨e,he,rfl⟩ ⟨slot',hg,hs.extBut S o hIS h2,hb⟩ ⟨fun b u hb e=>hs.extBut b u (fun z=>hb (by rw [z]; exact List.mem_cons_self)) e,rfl,rfl,rfl,Nat.le_refl _⟩
  done:=fun s Q E ⟨slot,h1,h2,h3⟩ hQ=>by
    refine end_set hh h1 h2 hd hf hsz hup hpl (fun z=>⟨hld z,h3 z⟩) (Array.getElem?_eq_none (by rw [ord_size]; exact Nat.le_refl _)) fun g hg=>?_
    exact hQ _ ⟨fun b u hb e=>hg b u (fun z=>hb (by rw [z]; exact List.mem_cons_self)) e,rfl,rfl,rfl,Nat.le_refl _⟩
  self:=fun i s Q E ⟨slot,h1,_⟩ hQ=>by
    have hT:s.TypeIs (.ref I) "set_iterator":=⟨_,h1,rfl⟩
    refine wpAny_pyIter_slot hT slot_set_iterator_iter (wpAny_call_entry slot_set_iterator_iter hT entry_set_iterator_iter ?_ (args_set_iterator_iter_1 _))
    show wpAny _ _ (ret (.ref I)) _ _ s
    exact wpAny_pure ⟨_,rfl, "set_iterator",_,hT,slot_set_iterator_next.lookup,hQ⟩
theorem hint {Q:Bool→Shared→Prop} (hT:s.TypeIs (.ref S) "set") (h:Q false s):wpAny (model prog w) A (Builtin.List.listLengthHint (.ref S)) Q E s:=by
  unfold Builtin.List.listLengthHint
  refine wpAny_bind (wpAny_specialOf hT len_of_set ?_)
  generalize hid:("set.__len__" : String)=id0
  wp_delta
  rw [show splitId id0=some ("set", "__len__") from by subst hid; decide +kernel]
  subst hid
  refine wpAny_bind (wpAny_isInstance (T:="set") (b:=true) hT (by rw [isSubtype_type]; kernel_rfl) ?_)
  refine wpAny_ite_split (fun hab=>absurd hab (by decide)) (fun _=>?_)
  refine wpAny_ite_split (fun _=>?_) (fun hab=>absurd (by decide +kernel) hab)
  refine wpAny_bind (wpAny_typeOf hT ?_)
  exact wpAny_pure h
theorem collect_set {Q:List Value→Shared→Prop} (hh:A.handled=none) (ho:s.heap.get? S=some o) (hc:o.cls=.type "set") (hd:o.data=.set es ep t) (hf:t.fits es.size=true) (hsz:t.place.size=es.size) (hup:ST.Up t.place) (hpl:t.plain=true) (hld:byT w=false→t.led=true) (hn:es.size≤sizeLine)
    (h:∀ (g:Heap) (tk:Nat),(∀ b u,s.heap.get? b=some u→g.get? b=some u)→Q ((ord w S es ep).toList.map (·.2)) { s with heap:=g,toks:=tk }):wpAny (model prog w) A (collect (.ref S)) Q E s:=by
  have hSs:S < s.heap.objs.size:=Heap.lt_size ho
  unfold collect
  refine wpAny_bind (wpAny_runValue (codeAny_builtin PySem.F.entry_proto_collect ?_))
  rw [Around.under_plainId PySem.F.plain_proto_collect _]
  show wpAny _ A.in1 (newList [] >>= fun l=>again (.builtin "list.__iadd__" ⟨[l,.ref S],[]⟩)) _ _ s
  refine wpAny_bind (wpAny_newObj_type ?_)
  refine wpAny_pure ⟨plainId_quiet PySem.F.plain_list_iadd _,codeAny_builtin PySem.F.entry_list_iadd ?_⟩
  rw [Around.under_plainId PySem.F.plain_list_iadd _]
  show wpAny _ A.in1 (Builtin.List.listExtendWith (.ref s.heap.objs.size) (.ref S) (.ref s.heap.objs.size)) _ _ _
  have hS₁:(s.heap.push { cls:=.type "list",data:=.seq ([]:List Value).toArray }).get? s.heap.objs.size=some { cls:=.type "list",data:=.seq ([]:List Value).toArray }:=Heap.get?_push_size _ rfl
  have ho₁:(s.heap.push { cls:=.type "list",data:=.seq ([]:List Value).toArray }).get? S=some o:=Heap.get?_push_of_some _ ho
  have keep₁:∀ b u,s.heap.get? b=some u→(s.heap.push { cls:=.type "list",data:=.seq ([]:List Value).toArray }).get? b=some u:=fun b u e=>Heap.get?_push_of_some _ e
  have hz₁:(s.heap.push { cls:=.type "list",data:=.seq ([]:List Value).toArray }).objs.size=s.heap.objs.size+1:=Heap.size_push ..
  generalize s.heap.push { cls:=.type "list",data:=.seq ([]:List Value).toArray }=h1 at hS₁ ho₁ keep₁ hz₁ ⊢
  unfold Builtin.List.listExtendWith
  refine wpAny_bind (wpAny_typeOf (T:="set") ⟨o,ho₁,hc⟩ ?_)
  have e1:Builtin.List.listSameRef (.ref s.heap.objs.size) (.ref S)=false:=by simp [Builtin.List.listSameRef]; exact Nat.ne_of_gt hSs
  have e2:(Value.type "set" == Value.type "list")=false:=by decide
  have e3:(Value.type "set" == Value.type "tuple")=false:=by decide
  simp only [e1,e2,e3,Bool.or_false,Bool.false_eq_true,if_false]
  refine wpAny_bind (iter_set ho₁ hc hd hf hpl ?_)
  have hS₂:(h1.push (itO 0 0 S es.size ep)).get? s.heap.objs.size=some { cls:=.type "list",data:=.seq ([]:List Value).toArray }:=Heap.get?_push_of_some _ hS₁
  have ho₂:(h1.push (itO 0 0 S es.size ep)).get? S=some o:=Heap.get?_push_of_some _ ho₁
  have hI₂:(h1.push (itO 0 0 S es.size ep)).get? h1.objs.size=some (itO 0 0 S es.size ep):=Heap.get?_push_size _ rfl
  have keep₂:∀ b u,s.heap.get? b=some u→(h1.push (itO 0 0 S es.size ep)).get? b=some u:=fun b u e=>Heap.get?_push_of_some _ (keep₁ b u e)
  dsimp only
  generalize h1.push (itO 0 0 S es.size ep)=h2 at hS₂ ho₂ hI₂ keep₂ ⊢
  refine wpAny_bind (wpAny_holding (hint ⟨o,ho₂,hc⟩ ?_))
  have W:=walks (prog:=prog) (w:=w) (A:=A.in1) (I:=h1.objs.size) (S:=S) (o:=o) (es:=es) (ep:=ep) (t:=t) hh (by rw [hz₁]; exact Nat.ne_of_lt (Nat.lt_succ_of_lt hSs)) hd hf hsz hup hpl hld
  have key:∀ (g:Heap) (c₁ tk:Nat),(∀ b u,b≠s.heap.objs.size→h2.get? b=some u→g.get? b=some u)→g.get? s.heap.objs.size=some { cls:=.type "list",data:=.seq #[] c₁ }→codeAny (model prog w) A (.builtin "list.extend.loop" ⟨[.ref s.heap.objs.size,.ref h1.objs.size,.ref s.heap.objs.size],[]⟩) (fun r s'=>∃ (g':Heap) (tk':Nat) (acc:Array Value) (c:Nat),r=.ok (.ret (.ref s.heap.objs.size))∧s'={ s with heap:=g',toks:=tk' }∧(∀ b u,s.heap.get? b=some u→g'.get? b=some u)∧g'.get? s.heap.objs.size=some { cls:=.type "list",data:=.seq acc c }∧acc.toList=(ord w S es ep).toList.map (·.2)) { s with heap:=g,toks:=tk }:=fun g c₁ tk hk hS₃=>by
    refine codeAny_extend_loopS W hn s.heap.objs.size ?_ _ es.size 0 _ #[] c₁ rfl (Nat.zero_le _) ⟨0,hk _ _ (by rw [hz₁]; exact Nat.ne_of_gt (Nat.lt_succ_self _)) hI₂,hk _ _ (Nat.ne_of_lt hSs) ho₂,fun _=>ST.below_zero hup⟩ hS₃ (ItemsOf.nil _) fun s' acc c' hm hS' hacc=>?_
    · rw [hz₁]
      simp only [List.mem_cons,List.mem_singleton,List.not_mem_nil,or_false,not_or]
      exact ⟨Nat.ne_of_lt (Nat.lt_succ_self _),Nat.ne_of_gt hSs⟩
    · obtain ⟨g',gg,d',tk',os'⟩:=s'
      have e1:gg=s.gens:=hm.gens
      have e2:d'=s.drawn:=hm.drawn
      have e3:os'=s.os:=hm.os
      subst e1
      subst e2
      subst e3
      refine ⟨g',tk',acc,c',rfl,rfl,fun b u e=>?_,hS',?_⟩
      · have hb:=Heap.lt_size e
        refine hm.heap b u ?_ (hk b u (Nat.ne_of_lt hb) (keep₂ b u e))
        rw [hz₁]
        simp only [List.mem_cons,List.mem_singleton,List.not_mem_nil,or_false,not_or]
        exact ⟨Nat.ne_of_lt hb,Nat.ne_of_lt (Nat.lt_succ_of_lt hb)⟩
      · refine List.ext_getElem? fun j=>?_
        rw [List.getElem?_map,Array.getElem?_toList,Array.getElem?_toList]
        rcases Nat.lt_or_ge j es.size with hj | hj
        · obtain ⟨e,he,hv⟩:=hacc.2 j _ (Array.getElem?_eq_getElem (by rw [hacc.1]; exact hj))
          rw [he,Array.getElem?_eq_getElem (by rw [hacc.1]; exact hj),hv]
          rfl
        · rw [Array.getElem?_eq_none (by rw [hacc.1]; exact hj),Array.getElem?_eq_none (by rw [ord_size]; exact hj)]
          rfl
  have fin:∀ (r:Result) (s':Shared),(∃ (g':Heap) (tk':Nat) (acc:Array Value) (c:Nat),r=.ok (.ret (.ref s.heap.objs.size))∧s'={ s with heap:=g',toks:=tk' }∧(∀ b u,s.heap.get? b=some u→g'.get? b=some u)∧g'.get? s.heap.objs.size=some { cls:=.type "list",data:=.seq acc c }∧acc.toList=(ord w S es ep).toList.map (·.2))→∃ (g':Heap) (tk':Nat) (acc:Array Value) (c:Nat),r=.ok (.ret (.ref s.heap.objs.size))∧s'={ s with heap:=g',toks:=tk' }∧g'.get? s.heap.objs.size=some { cls:=.type "list",data:=.seq acc c }∧Q acc.toList { s with heap:=g',toks:=tk' }:=fun r s' ⟨g',tk',acc,c,a1,a2,a3,a4,a5⟩=>⟨g',tk',acc,c,a1,a2,a4,by rw [a5]; exact h g' tk' a3⟩
  refine wpAny_ite_split (fun _=>?_) (fun _=>wpAny_pure ⟨plainId_quiet PySem.F.plain_extend_loop _,codeAny_mono (key _ 0 _ (fun b u _ e=>e) hS₂) fun r s' z=>?_⟩)
  · refine wpAny_bind (wpAny_rule ?_)
    refine wpAny_bind ?_
    show wpAny _ A.in1 (updateSeq s.heap.objs.size (·.push .none) >>= fun _=>updateSeq s.heap.objs.size (·.pop)) _ _ _
    refine wpAny_bind (wpAny_updateSeq hS₂ rfl ?_)
    have hS₃:=Heap.get?_update_self (Obj.mapSeq (·.push Value.none)) hS₂ rfl
    refine wpAny_updateSeq (hz:=by seq_fits) hS₃ rfl ?_
    have hS₄:=Heap.get?_update_self (Obj.mapSeq (·.pop)) hS₃ rfl
    refine wpAny_pure ⟨plainId_quiet PySem.F.plain_extend_loop _,codeAny_mono (key _ _ _ (fun b u hb e=>?_) hS₄) fun r s' z=>?_⟩
    · exact (Heap.get?_update_other _ _ (Ne.symm hb)).trans ((Heap.get?_update_other _ _ (Ne.symm hb)).trans e)
    · obtain ⟨g',tk',acc,c,rfl,rfl,a4,q⟩:=fin r s' z
      show wpAny _ A (load s.heap.objs.size >>= _) _ _ _
      exact wpAny_bind (wpAny_load a4 (wpAny_pure q))
  · obtain ⟨g',tk',acc,c,rfl,rfl,a4,q⟩:=fin r s' z
    show wpAny _ A (load s.heap.objs.size >>= _) _ _ _
    exact wpAny_bind (wpAny_load a4 (wpAny_pure q))
end
end SI
namespace L2
open PySem PySem.Spec PyProof.Rows
theorem den_ints {H:Hp}:∀ {p:List Int} {vs:List V},DenL H vs (p.map D.int)→vs=p.map V.int
  | [],[],_=>rfl
  | i :: p,v :: vs,h=>by
    obtain ⟨h1,h2⟩:=h
    rw [show v=V.int i from h1,den_ints h2]
    rfl
  | [],_ :: _,h=>h.elim
  | _ :: _,[],h=>h.elim
section
variable {X:Cx} {pins:List (Addr × Obj)} {σ:St} {H:Hp} {s:Shared}
end
end L2
namespace ST
open PySem PySem.SetTable
def entI (p:Int × Tok):Int × Value:=(hashInt p.1,.int p.1 p.2)
structure ISet (w:World) (h:Heap) (S:Addr) (ns:List Int):Prop where
  ex:∃ (o:Obj) (es:Array (Int × Value)) (ep:Nat) (t:SetTable) (kts:List (Int × Tok)),h.get? S=some o∧o.ExactSet∧o.data=.set es ep t∧TOk t es.size∧es.size * 5 < t.mask * 3∧t.plain=true∧(w.params.followText "set-order" = true∨t.led=true)∧t.mask≤9000∧(kts.map (·.1)).Perm ns∧es.toList=kts.map entI
def addI (ns:List Int) (k:Int):List Int:=if k∈ns then ns else k :: ns
theorem lay_ok {t:SetTable} {es:Array (Int × Value)} {h:Int} {x:Value} (hT:TOk t es.size) (hrm:es.size * 5 < t.mask * 3):∃ j,t.slot j=.empty∧layNew t es h x=(insertAt es (t.put j).2 (h,x),(t.put j).1,false,false):=by
  obtain ⟨c1,c2,c3⟩:=start_ok t h
  obtain ⟨d,hd1,hD⟩:=hT.dist c1 c2
  have hfr:t.freeSlot h=some ((adv t d (t.probeStart h)).j,false):=by
    unfold SetTable.freeSlot
    have:t.probe (fun _=>h+1) h (t.probeStart h)=some (.empty (adv t d (t.probeStart h)).j none):=by
      unfold SetTable.probe
      rcases probe_go hT.d (hashAt:=fun _=>h+1) (h:=h) d (10 * turns t.mask) (t.probeStart h) hD (by unfold turns; omega) with z | ⟨e,i,_,_,z,_⟩
      · rw [z,c3]
      · have z:h+1=h:=z
        omega
    rw [this]
    rfl
  refine ⟨_,hD.1,?_⟩
  unfold layNew
  rw [hfr]
  dsimp only
  have hf:(t.put (adv t d (t.probeStart h)).j).1.fits (insertAt es (t.put (adv t d (t.probeStart h)).j).2 (h,x)).size=true:=by
    unfold SetTable.fits SetTable.fill
    have e1:(t.put (adv t d (t.probeStart h)).j).1.dummies = #[]:=by
      show (if SetTable.has t.dummies _ then _ else t.dummies) = #[]
      rw [hT.d]
      rfl
    have e2:(t.put (adv t d (t.probeStart h)).j).1.place.size=es.size+1:=by
      show (SetTable.insertAt t.place _ _).size=_
      rw [insert_size,hT.sz]
    have e3:(t.put (adv t d (t.probeStart h)).j).1.mask=t.mask:=rfl
    rw [e1,e2,e3,insert_size]
    have:=hT.o
    simp
    omega
  unfold SetTable.orStandIn
  rw [if_pos hf,hf]
  rfl
section
variable {prog:Program} {w:World} {A:Around} {E:Value→Shared→Prop} {s:Shared}
theorem add_int {S:Addr} {ns:List Int} {k:Int} {tk:Tok} {Q:Bool→Shared→Prop} (hS:ISet w s.heap S ns) (hz:ns.length+1≤1002)
    (h:∀ (b:Bool) (h':Heap),Heap.SameBut S s.heap h'→ISet w h' S (addI ns k)→Q b { s with heap:=h' }):wpAny (model prog w) A (setAddHashed S (.int k tk) (hashInt k)) Q E s:=by
  obtain ⟨o,es,ep,t,kts,ho,hex,hd,hT,hrm,hpl,hld,hmk,hp,hE⟩:=hS.ex
  have hsz:es.size=ns.length:=by
    have:=congrArg List.length hE
    rw [Array.length_toList,List.length_map] at this
    have h2:=hp.length_eq
    rw [List.length_map] at h2
    omega
  have hf:t.fits es.size=true:=by
    unfold SetTable.fits SetTable.fill
    rw [hT.d,hT.sz]
    have:=hT.room
    simp
    exact this
  have hel:ElemsOf (intKind prog w) es.toList:=fun e he=>by
    rw [hE] at he
    obtain ⟨p,_,rfl⟩:=List.mem_map.mp he
    exact ⟨⟨p.1,by show Value.isInt p.1 (.int p.1 p.2)=true; simp [Value.isInt],rfl⟩,rfl⟩
  unfold setAddHashed setAddHashedIn
  refine wpAny_holding (wpAny_bind (wpAny_setState_of ho hd hf ?_))
  dsimp only
  rw [byScan_of (knd:=intKind prog w) (x:=.int k tk) rfl (by unfold scanBound; omega) hel]
  simp only [↓reduceIte]
  unfold setAddByScan
  refine wpAny_bind ?_
  refine wpAny_bind (wpAny_rule ?_)
  refine wpAny_bind (wpAny_setScan_of (knd:=intKind prog w) (k:=k) (by show Value.isInt k (.int k tk)=true; simp [Value.isInt]) ho hd hf hel ?_)
  have hmem:(∃ e∈es.toList,(intKind prog w).is k e.2=true)↔k∈ns:=by
    constructor
    · rintro ⟨e,he,z⟩
      rw [hE] at he
      obtain ⟨p,hpm,rfl⟩:=List.mem_map.mp he
      have z:Value.isInt k (.int p.1 p.2)=true:=z
      have:p.1=k:=by
        simp [Value.isInt] at z
        first | exact z | exact z.symm
      exact hp.mem_iff.mp (List.mem_map.mpr ⟨p,hpm,this⟩)
    · intro z
      obtain ⟨p,hpm,e⟩:=List.mem_map.mp (hp.mem_iff.mpr z)
      refine ⟨entI p,by rw [hE]; exact List.mem_map_of_mem hpm,?_⟩
      show Value.isInt k (.int p.1 p.2)=true
      simp [Value.isInt,e]
  cases hr:List.findIdx? (fun e=>(intKind prog w).is k e.2) es.toList with
  | some j =>
    dsimp only
    obtain ⟨hj,hpj,_⟩:=List.findIdx?_eq_some_iff_getElem.mp hr
    have hk:k∈ns:=hmem.mp ⟨_,List.getElem_mem hj,hpj⟩
    refine wpAny_pure (wpAny_pure ?_)
    have e:s={ s with heap:=s.heap }:=by cases s; rfl
    have:=h false s.heap (Heap.SameBut.refl S s.heap) (by unfold addI; rw [if_pos hk]; exact hS)
    rw [e]
    exact this
  | none =>
    dsimp only
    have hk:k ∉ ns:=fun z=>by
      obtain ⟨e,he,z⟩:=hmem.mpr z
      have:=List.findIdx?_eq_none_iff.mp hr e he
      rw [z] at this
      exact Bool.noConfusion this
    have hadd:addI ns k=k :: ns:=if_neg hk
    obtain ⟨j,hje,hL⟩:=lay_ok (h:=hashInt k) (x:=.int k tk) hT hrm
    rw [hL]
    dsimp only
    have hput:(t.put j).1.mask=t.mask∧(t.put j).1.dummies = #[]∧(t.put j).1.place.size=es.size+1∧(t.put j).1.plain=true∧(t.put j).1.led=t.led∧Up (t.put j).1.place:=by
      refine ⟨rfl,?_,?_,hpl,rfl,insert_up hT.up (slot_empty hje)⟩
      · show (if SetTable.has t.dummies j then _ else t.dummies) = #[]
        rw [hT.d]
        rfl
      · show (SetTable.insertAt t.place _ j).size=_
        rw [insert_size,hT.sz]
    obtain ⟨m1,m2,m3,m4,m5,m6⟩:=hput
    have hs1:=insert_size es (t.put j).2 (hashInt k,Value.int k tk)
    have hp1:=insert_perm es (t.put j).2 (hashInt k,Value.int k tk)
    generalize SetTable.insertAt es (t.put j).2 (hashInt k,Value.int k tk)=es1 at hs1 hp1 ⊢
    generalize (t.put j).1=t1 at m1 m2 m3 m4 m5 m6 ⊢
    have hln:es1.size≤sizeLine:=by rw [sizeLine_eq]; omega
    refine wpAny_bind (wpAny_pure ?_)
    rw [if_pos m4]
    refine wpAny_bind (wpAny_pure ?_)
    simp only [↓reduceIte]
    refine wpAny_bind (wpAny_storeSet_of ho hd ?_ hln)
    have hg1:(s.heap.update S (Obj.putSet es1 t1)).get? S=some { o with data:=.set es1 (ep+1) t1 }:=by
      have:=Heap.get?_update_self (Obj.putSet es1 t1) ho (by rw [putSet_of es1 t1 hd]; rfl)
      rw [putSet_of es1 t1 hd] at this
      exact this
    have hsb1:=Heap.SameBut.update s.heap S (Obj.putSet es1 t1)
    have hent:∀ (es2:Array (Int × Value)),es2.toList.Perm es1.toList→∃ kts2:List (Int × Tok),(kts2.map (·.1)).Perm (addI ns k)∧es2.toList=kts2.map entI:=fun es2 hpe=>by
      have hpm:es2.toList.Perm (((k,tk) :: kts).map entI):=by
        refine (hpe.trans hp1).trans ?_
        rw [List.map_cons,hE]
        exact List.Perm.refl _
      obtain ⟨kas2,k1,k2⟩:=perm_ex hpm.symm rfl
      refine ⟨kas2,(k1.map (·.1)).trans ?_,k2⟩
      rw [hadd,List.map_cons]
      exact hp.cons _
    have hodd:t1.mask % 2=1:=by rw [m1]; exact hT.o
    have hpow:∃ k,t1.mask+1=2 ^ k:=by rw [m1]; exact hT.k
    have hle:es1.size≤t1.mask:=by rw [m1,hs1]; have:=hT.o; omega
    have hfl:t1.fill=es1.size:=by
      unfold SetTable.fill
      rw [m2,m3,hs1]
      rfl
    by_cases htf:t1.tooFull=true
    · rw [if_pos (by rw [htf]; rfl)]
      have hgr:SetTable.grown es1.size=es1.size * 4:=by
        unfold SetTable.grown
        rw [if_neg (by omega)]
      obtain ⟨t2,order,r1,r2,r3,r4,r5,r6,r7⟩:=relaid_ok (t:=t1) (hashes:=es1.map (·.1)) (wanted:=es1.size * 4) (by omega) (by rw [Array.size_map]; omega) (by omega)
      rw [Array.size_map] at r2 r3
      have hes2:(order.filterMap (es1[·]?)).toList.Perm es1.toList:=by
        rw [Array.toList_filterMap]
        refine (r3.filterMap _).trans ?_
        have:(List.range es1.size).filterMap (es1[·]?)=es1.toList:=PySem.W.krv_all es1
        rw [this]
      have hsz2:(order.filterMap (es1[·]?)).size=es1.size:=by
        have:=hes2.length_eq
        rw [Array.length_toList,Array.length_toList] at this
        exact this
      have hrl:relayAll t1 es1 (SetTable.grown es1.size)=(order.filterMap (es1[·]?),t2,false):=by
        unfold relayAll
        rw [hgr,r1]
        dsimp only
        have c1:coversAll order es1.size=true:=by
          unfold coversAll
          exact List.isPerm_iff.mpr r3
        have c2:t2.fits (order.filterMap (es1[·]?)).size=true:=by
          unfold SetTable.fits SetTable.fill
          rw [r2.d,r2.sz,hsz2]
          have:=r2.room
          simp
          exact this
        rw [if_pos (by rw [c1,c2]; rfl)]
      rw [hrl]
      dsimp only
      refine wpAny_bind (wpAny_pure ?_)
      generalize order.filterMap (es1[·]?)=es2 at hes2 hsz2
      refine wpAny_bind (wpAny_storeSet_of hg1 rfl ?_ (by rw [hsz2]; exact hln))
      have hg2:((s.heap.update S (Obj.putSet es1 t1)).update S (Obj.putSet es2 t2)).get? S=some { o with data:=.set es2 (ep+1+1) t2 }:=by
        have:=Heap.get?_update_self (Obj.putSet es2 t2) hg1 rfl
        exact this
      have hsb2:=hsb1.trans (Heap.SameBut.update _ S (Obj.putSet es2 t2))
      obtain ⟨kas2,k1,k2⟩:=hent es2 hes2
      refine wpAny_pure (wpAny_pure (h true _ hsb2 ⟨_,es2,_,t2,kas2,hg2,hex,rfl,by rw [hsz2]; exact r2,by rw [hsz2]; omega,by rw [r4]; exact m4,by rw [r5,m5]; exact hld,by omega,k1,k2⟩))
    · rw [if_neg (by simpa using htf)]
      obtain ⟨kas2,k1,k2⟩:=hent es1 (List.Perm.refl _)
      have hr1:es1.size * 5 < t1.mask * 3:=by
        unfold SetTable.tooFull at htf
        rw [hfl] at htf
        simp at htf
        exact htf
      refine wpAny_pure (wpAny_pure (h true _ hsb1 ⟨_,es1,_,t1,kas2,hg1,hex,rfl,⟨hpow,m2,by rw [m3,hs1],hle,hodd,m6⟩,hr1,m4,by rw [m5]; exact hld,by rw [m1]; exact hmk,k1,k2⟩))
end
end ST
namespace SX
open PySem PySem.Spec PyProof.Rows
def lstI (val:Nat→Int):Nat→List Int
  | 0=>[]
  | i+1=>ST.addI (lstI val i) (val i)
theorem lstI_len {val:Nat→Int}:∀ {i:Nat},(lstI val i).length≤i
  | 0=>Nat.le_refl _
  | i+1=>by
    have:=lstI_len (val:=val) (i:=i)
    show (ST.addI (lstI val i) (val i)).length≤i+1
    unfold ST.addI
    split
    · omega
    · rw [List.length_cons]; omega
theorem intKeep {w:World} {h h':Heap} {S:Addr} {ns:List Int} (x:ST.ISet w h S ns) (hS:∀ o,h.get? S=some o→h'.get? S=some o):ST.ISet w h' S ns:=by
  obtain ⟨o,es,ep,t,kts,ho,r⟩:=x.ex
  exact ⟨o,es,ep,t,kts,hS o ho,r⟩
section
variable {prog:Program} {w:World} {A:Around} {R:Result→Shared→Prop} {I:Addr} {fp wr:List Addr} {G:Array GenState→Array GenState→Prop} {n:Nat} {P:Nat→Value→Prop} {St:Nat→Shared→Prop}
theorem fillI (W:WalksS prog w A.in1 I fp wr G n P St) (S:Addr) (nf:S ∉ fp) (val:Nat→Int) (hv:∀ i v,P i v→∃ t,v=.int (val i) t) (room:n+1≤1002) :
    ∀ (k i:Nat) (s:Shared),n - i=k→i≤n→St i s→ST.ISet w s.heap S (lstI val i)→(∀ s',Moved (S :: wr) G s s'→ST.ISet w s'.heap S (lstI val n)→R (.ok (.ret .none)) s') →
      codeAny (model prog w) A (.builtin "set.update.loop" ⟨[.ref S,.ref I],[]⟩) R s:=by
  have nw:S ∉ wr:=fun z=>nf (W.sub _ z)
  have sub:∀ b∈wr,b∈S :: wr:=fun b z=>List.mem_cons_of_mem _ z
  intro k
  induction k with
  | zero =>
    intro i s ek le st hS q
    have e:i=n:=by omega
    subst e
    refine codeAny_builtin F.entry_set_update_loop ?_
    rw [Around.under_plainId F.plain_set_update_loop _]
    show wpAny _ A.in1 (pyNext (.ref I) >>= _) _ _ _
    refine wpAny_bind (W.done s _ _ st fun s' mv=>?_)
    show wpAny _ A.in1 (ret Value.none) _ _ _
    exact wpAny_pure (q s' (mv.mono sub) (intKeep hS fun o e=>mv.heap S o nw e))
  | succ k ih =>
    intro i s ek le st hS q
    have lt:i < n:=by omega
    refine codeAny_builtin F.entry_set_update_loop ?_
    rw [Around.under_plainId F.plain_set_update_loop _]
    show wpAny _ A.in1 (pyNext (.ref I) >>= _) _ _ _
    refine wpAny_bind (W.item i s _ _ lt st fun v s' hP st' mv=>?_)
    obtain ⟨t,rfl⟩:=hv i v hP
    have hS':ST.ISet w s'.heap S (lstI val i):=intKeep hS fun o e=>mv.heap S o nw e
    show wpAny _ A.in1 (holding [.int (val i) t] (setAdd S (.int (val i) t)) >>= _) _ _ _
    refine wpAny_bind (wpAny_holding ?_)
    unfold setAdd
    refine wpAny_holding (wpAny_bind (wpAny_pyHash_int ?_))
    have hl:=lstI_len (val:=val) (i:=i)
    refine ST.add_int hS' (by omega) fun b g sb hS2=>?_
    refine wpAny_pure ⟨plainId_quiet F.plain_set_update_loop _,ih (i+1) _ (by omega) lt (W.frame _ s' _ _ st' (by first | exact Nat.le_refl _ | exact Nat.le_add_right _ _) fun b hb o e=>?_) hS2 fun s'' mv2 hS''=>?_⟩
    · rw [sb.2 b fun z=>nf (z ▸ hb)]
      exact e
    · refine q s'' (Moved.trans W.gtrans ((mv.mono sub).then_heap (by first | exact Nat.le_refl _ | exact Nat.le_add_right _ _) fun b o hb e=>?_) mv2) hS''
      rw [sb.2 b fun z=>hb (by rw [z]; exact List.mem_cons_self)]
      exact e
end
theorem call_set_ints {prog:Program} {w:World} {A:Around} {E:Value→Shared→Prop} {s:Shared} {l:Addr} {items:Array Value} {val:Nat→Int} {Q:Value→Shared→Prop}
    (hd:A.handled=none) (tl:s.heap.IsList l items) (hv:∀ (i:Nat) (v:Value),items[i]?=some v→∃ t,v=Value.int (val i) t) (room:items.size+1≤1002)
    (q:∀ (g:Heap) (tk:Nat),ST.ISet w g s.heap.objs.size (lstI val items.size)→(∀ b o,b < s.heap.objs.size→s.heap.get? b=some o→g.get? b=some o)→Q (.ref s.heap.objs.size) { s with heap:=g,toks:=tk }) :
    wpAny (model prog w) A (call (.type "set") [.ref l]) Q E s:=by
  obtain ⟨c,tl',hmro⟩:=PySem.F.called_set.mro
  have hmade:=PySem.F.called_set.made
  have hsub:=PySem.F.called_set.sub
  refine wpAny_call (codeAny_of_tree ?_)
  show wpAny _ _ (callAny (.type "set") _) _ _ _
  refine wpAny_pure ⟨Code.quiet_builtin _ (by decide +kernel),codeAny_builtin PySem.F.entry_type_call ?_⟩
  rw [Around.under_plain (weight_type_call_type "set" [.ref l] []) rfl]
  have h1:=PySem.F.called_set.notType
  have h2:=PySem.F.called_set.canCreate
  have hct:=PySem.F.typeCall_set_1 (.ref l)
  repeat (any_goals (first | assumption | wp_step))
  refine codeAny_mono (code_set_newL (.ref l) (E:=E) (Q₁:=fun ob s₁=>∃ led:Bool,(w.params.followText "set-order" = true∨led=true)∧ob=.ref s.heap.objs.size∧s₁={ s with heap:=s.heap.push { cls:=.type "set",dict:=none,data:=.set #[] 0 (.fresh 0 0 led) } }) ⟨_,by cases w.params.followText "set-order" <;> simp,rfl,rfl⟩) fun r s₁ hr=>?_
  cases r with
  | error e=>exact hr
  | ok fl =>
    cases fl with
    | ret ob =>
      obtain ⟨led,hled,rfl,rfl⟩:=hr
      have eS:(s.heap.push { cls:=.type "set",dict:=none,data:=.set #[] 0 (.fresh 0 0 led) }).get? s.heap.objs.size=some { cls:=.type "set",dict:=none,data:=.set #[] 0 (.fresh 0 0 led) }:=Heap.get?_push_size _ rfl
      have tS:Shared.TypeIs { s with heap:=s.heap.push { cls:=.type "set",dict:=none,data:=.set #[] 0 (.fresh 0 0 led) } } (.ref s.heap.objs.size) "set":=⟨_,eS,rfl⟩
      have hli:=PySem.F.called_set.init.lookup
      have hbi:=PySem.F.called_set.init.bind (.ref s.heap.objs.size)
      repeat (any_goals (first | assumption | wp_step))
      refine codeAny_mono (codeAny_call_builtin (R:=wants (fun r s₂=>r=.none∧∃ g tk,s₂={ s with heap:=g,toks:=tk }∧ST.ISet w g s.heap.objs.size (lstI val items.size) ∧
          (∀ b o,b < s.heap.objs.size→s.heap.get? b=some o→g.get? b=some o)) E) PySem.F.called_set.init.plain PySem.F.entry_set_init (check_set_init_1 tS ?_)) fun r₂ s₂ hr₂=>?_
      · obtain ⟨⟨oc,od,odt,osl⟩,eol,ecl,nl,edl⟩:=tl
        simp only at ecl edl
        subst ecl
        subst edl
        have eol':(s.heap.push { cls:=.type "set",dict:=none,data:=.set #[] 0 (.fresh 0 0 led) }).get? l=some { cls:=.type "list",dict:=od,data:=.seq items nl,slots:=osl }:=Heap.get?_push_of_some _ eol
        have hsls:=PySem.F.sub_list_set
        have hslf:=PySem.F.sub_list_frozenset
        have hne:(Value.type "list" == Value.type "dict")=false:=by decide
        have tl1:(s.heap.push { cls:=.type "set",dict:=none,data:=.set #[] 0 (.fresh 0 0 led) }).IsList l items:=⟨_,eol',rfl,nl,rfl⟩
        unfold Builtin.«set.__init__» noKeywords Builtin.Frozenset.updateFrom
        generalize hPI:pyIter=PI
        wp_walk
        subst hPI
        refine wpAny_pyIter_list tl1 (wpAny_bind (wpAny_runValue ?_))
        have lS:l < s.heap.objs.size:=Heap.lt_size eol
        have hd3:A.in1.in1.in1.handled=none:=by simp [hd]
        have neI:l≠(s.heap.push { cls:=.type "set",dict:=none,data:=.set #[] 0 (.fresh 0 0 led) }).objs.size:=by
          rw [Heap.size_push]
          exact Nat.ne_of_lt (Nat.lt_succ_of_lt lS)
        have nf:s.heap.objs.size ∉ [(s.heap.push { cls:=.type "set",dict:=none,data:=.set #[] 0 (.fresh 0 0 led) }).objs.size,l]:=by
          rw [Heap.size_push]
          simp only [List.mem_cons,List.mem_singleton,List.not_mem_nil,or_false,not_or]
          exact ⟨Nat.ne_of_lt (Nat.lt_succ_self _),Nat.ne_of_gt lS⟩
        refine fillI ((Walks.list hd3 _ l neI items).toS) s.heap.objs.size nf val hv room (items.size - 0) 0 _ (by omega) (Nat.zero_le _) ⟨⟨_,Heap.get?_push_size _ rfl,rfl,rfl⟩,tl1.push _⟩ ?hS0 ?hR
        case hS0 =>
          have eg:((s.heap.push { cls:=.type "set",dict:=none,data:=.set #[] 0 (.fresh 0 0 led) }).push { cls:=.type "list_iterator",data:=.fields #[.ref l,.int 0 0] }).get? s.heap.objs.size=some { cls:=.type "set",dict:=none,data:=.set #[] 0 (.fresh 0 0 led) }:=Heap.get?_push_of_some _ eS
          exact ⟨_,#[],0,.fresh 0 0 led,[],eg,⟨rfl,rfl,rfl⟩,rfl,⟨⟨3,rfl⟩,rfl,rfl,by show 0≤7; decide,by show 7 % 2=1; rfl,ST.Up.nil⟩,by show 0 * 5 < 7 * 3; decide,rfl,hled,by show 7≤9000; decide,List.Perm.refl _,rfl⟩
        case hR =>
          intro s' mv hS'
          obtain ⟨g,gg,d',tk',os'⟩:=s'
          have e1:gg=s.gens:=mv.gens
          have e2:d'=s.drawn:=mv.drawn
          have e3:os'=s.os:=mv.os
          subst e1
          subst e2
          subst e3
          show wpAny _ _ _ _ _ _
          refine wpAny_pure ?_
          show wpAny _ _ (ret Value.none) _ _ _
          refine wpAny_pure ⟨rfl,g,tk',rfl,hS',fun b o hb e=>?_⟩
          have hb2:b≠(s.heap.push { cls:=.type "set",dict:=none,data:=.set #[] 0 (.fresh 0 0 led) }).objs.size:=by
            rw [Heap.size_push]
            exact Nat.ne_of_lt (Nat.lt_succ_of_lt hb)
          exact mv.heap b o (by simp only [List.mem_cons,List.mem_singleton,List.not_mem_nil,or_false,not_or]; exact ⟨Nat.ne_of_lt hb,hb2⟩) (Heap.get?_push_of_some _ (Heap.get?_push_of_some _ e))
      · cases r₂ with
        | error e=>exact hr₂
        | ok fl₂ =>
          cases fl₂ with
          | ret r =>
            obtain ⟨rfl,g,tk,rfl,hS',hk'⟩:=hr₂
            repeat (any_goals (first | assumption | wp_step))
            exact q _ _ hS' hk'
          | _=>exact hr₂.elim
    | _=>exact hr.elim
end SX
namespace L2
open PySem PySem.Spec PyProof.Rows
def ExcAt (cls:Value) (T e:Addr) (h:Heap):Prop:=∃ oe vs a0,h.get? e=some oe∧oe.cls=cls∧oe.data=.fields vs∧vs[0]?=some a0∧vs[1]?=some (.ref T)
def TrAt (T:Addr) (h:Heap):Prop:=∃ oT ts,h.get? T=some oT∧oT.data=.fields ts∧ts[3]?=some .none
def ExcO (cls:Value) (T e:Addr):HO:=.ext (ExcAt cls T e)
def TrO (T:Addr):HO:=.ext (TrAt T)
theorem excO_ok {P:Program} {w:World} {H:Hp} {h:Heap} {cls:Value} {T e:Addr} (x:ExcAt cls T e h):ObjOk P w H h e (ExcO cls T e):=by
  refine ⟨x,?_,fun h1 h2 p k=>?_⟩
  · obtain ⟨oe,_,_,he,_⟩:=x
    exact ⟨oe,he⟩
  · obtain ⟨oe,vs,a0,he,r⟩:=p
    exact ⟨oe,vs,a0,k oe he,r⟩
theorem trO_ok {P:Program} {w:World} {H:Hp} {h:Heap} {T:Addr} (x:TrAt T h):ObjOk P w H h T (TrO T):=by
  refine ⟨x,?_,fun h1 h2 p k=>?_⟩
  · obtain ⟨oe,_,he,_⟩:=x
    exact ⟨oe,he⟩
  · obtain ⟨oe,vs,he,r⟩:=p
    exact ⟨oe,vs,k oe he,r⟩
def CX1 (P:Program) (w:World):CXT:=fun outer H s E e s'=>∃ (ea T:Addr) (cls:Value) (H':Hp),e=.ref ea∧T≠ea∧s'.os=s.os∧AllBare s'.gens∧Un (frs outer) [] H H' s.heap s'.heap∧HOk P w H' s'.heap ∧
  H' ea=some (ExcO cls T ea)∧H' T=some (TrO T)∧E cls (some ea) H'
section
variable {M:Model} {A:Around} {E:Value→Shared→Prop} {s:Shared} {base:Heap} {env:Env} {outer:List Env} {L e:Addr}
structure Left (fs:List Addr) (e:Addr) (cls:Value) (T:Addr) (h h':Heap):Prop where
  keep:∀ b o,h.get? b=some o→b ∉ fs→b≠e→h'.get? b=some o
  slot:∀ b o,h.get? b=some o→b∈fs→∃ sl,h'.get? b=some { o with slots:=sl }
  new:h.get? T=none
  ne:T≠e
  exc:ExcAt cls T e h'
  tr:TrAt T h'
theorem funFrames_of {base B h:Heap} {l:List Env} (hl:h.FunFrames base l) (hB:∀ b∈frs l,B.get? b=none):h.FunFrames B l:=by
  induction l with
  | nil=>trivial
  | cons env r ih =>
    obtain ⟨hk,⟨L,o,hf,hn,ho,hd⟩,hr⟩:=hl
    refine ⟨hk,⟨L,o,hf,hB L ?_,ho,hd⟩,ih hr fun b hb=>hB b ?_⟩
    · unfold frs; rw [List.filterMap_cons,hf]; exact List.mem_cons_self
    · unfold frs; rw [List.filterMap_cons,hf]; exact List.mem_cons_of_mem _ hb
theorem left_of {cls a0:Value} {h':Heap} (hl:s.heap.FunFrames base (env :: outer))
    (x:Heap.LeftW (PySem.W.hideAll s.heap (e :: frs (env :: outer))) (env :: outer) e cls a0 s.heap h'):∃ T,Left (frs (env :: outer)) e cls T s.heap h':=by
  obtain ⟨k1,k2,⟨oe,vs,T,oT,ts,he,⟨hc,h0⟩,hd,h1,hnT,hTe,hT,hdT,h3⟩,k4⟩:=x
  refine ⟨T,fun b o hb hn hne=>k1 b o (PySem.W.hideAll_get _ hb fun z=>?_),fun b o hb hm=>?_,?_,hTe,⟨oe,vs,a0,he,hc,hd,h0,h1⟩,⟨oT,ts,hT,hdT,h3⟩⟩
  · rcases List.mem_cons.mp z with z | z
    · exact hne z
    · exact hn z
  · obtain ⟨_,o',ho',hnf⟩:=hl.mem hm
    rw [hb] at ho'; cases ho'
    exact k4 b o hb hnf
  · cases q:s.heap.get? T with
    | none=>rfl
    | some o =>
      exfalso
      by_cases hm:T∈frs (env :: outer)
      · obtain ⟨_,o',ho',hnf⟩:=hl.mem hm
        obtain ⟨sl,e1⟩:=k4 T o' ho' hnf
        rw [hT] at e1; cases e1
        exact hnf ts hdT
      · have:=PySem.W.hideAll_get (e :: frs (env :: outer)) q fun z=>(List.mem_cons.mp z).elim hTe hm
        rw [hnT] at this; cases this
theorem leave_first {oe:Obj} {vs:Array Value} {a0:Value} {Q:Unit→Shared→Prop} (hfr:A.frames=some (env :: outer)) (hl:s.heap.FunFrames base (env :: outer)) (hf:env.frame=some L)
    (he:s.heap.get? e=some oe) (hd:oe.data=.fields vs) (h1:vs[1]?=some .none) (h0:vs[0]?=some a0)
    (h:∀ h' T,Left (frs (env :: outer)) e oe.cls T s.heap h'→Q () { s with heap:=h' }):wpAny M A (leaving env (.ref e)) Q E s:=by
  refine wpAny_leaving_firstW (base:=PySem.W.hideAll s.heap (e :: frs (env :: outer))) hfr (funFrames_of hl fun b hb=>PySem.W.hideAll_none _ (List.mem_cons_of_mem _ hb)) hf he (fun b o hb=>PySem.W.of_hideAll _ hb) (PySem.W.hideAll_none _ List.mem_cons_self) hd h1 h0 fun h' x=>?_
  obtain ⟨T,y⟩:=left_of hl x
  exact h h' T y
theorem note_next {cls:Value} {T:Addr} {Q:Unit→Shared→Prop} (hfr:A.frames=some (env :: outer)) (hl:s.heap.FunFrames base (env :: outer)) (hf:env.frame=some L)
    (hx:ExcAt cls T e s.heap) (hT:TrAt T s.heap) (hTe:T≠e)
    (h:∀ h1 h' T',(∀ b,b≠T→h1.get? b=s.heap.get? b)→TrAt T h1→Left (frs (env :: outer)) e cls T' h1 h'→Q () { s with heap:=h' }):wpAny M A (noteFrame (.ref e) env) (fun _ s'=>wpAny M A (setFlight (.ref e) none) Q E s') E s:=by
  obtain ⟨oe,vs,a0,he,hcls,hd,h0,h1⟩:=hx
  obtain ⟨oT,ts,hT,hdT,h3⟩:=hT
  subst hcls
  unfold noteFrame
  simp only [hf]
  refine wpAny_bind (wpAny_field he hd h1 ?_)
  rw [if_pos (show (Value.ref T != Value.none)=true from by simp)]
  refine wpAny_bind (wpAny_field hT hdT h3 ?_)
  rw [if_neg (show ¬ ((Value.none == rawInt L)=true) from by simp [rawInt])]
  refine wpAny_bind (wpAny_setField hT hdT (Array.getElem?_eq_some_iff.mp h3).1 ?_)
  have other:∀ b,b≠T→(s.heap.update T (Obj.mapFields (·.setIfInBounds 3 Value.none))).get? b=s.heap.get? b:=fun b hb=>Heap.get?_update_other _ _ (Ne.symm hb)
  have noRecord:∀ b o,s.heap.get? b=some o→(∀ vs,o.data≠.fields vs)→b≠T:=fun b o hb hnf q=>by
    rw [q,hT] at hb; injection hb with hb; subst hb; exact hnf ts hdT
  have hl1:(s.heap.update T (Obj.mapFields (·.setIfInBounds 3 Value.none))).FunFrames base (env :: outer):=hl.of_keeps fun b o hb hnf=>⟨o,(other b (noRecord b o hb hnf)).trans hb,rfl⟩
  have hT1:TrAt T (s.heap.update T (Obj.mapFields (·.setIfInBounds 3 Value.none))) :=
    ⟨_,_,Heap.get?_update_self _ hT (Obj.isFreed_of_fields (Obj.data_mapFields hdT _)),Obj.data_mapFields hdT _,by simp [(Array.getElem?_eq_some_iff.mp h3).1]⟩
  refine wpAny_newEntryW (base:=PySem.W.hideAll (s.heap.update T (Obj.mapFields (·.setIfInBounds 3 Value.none))) (e :: frs (env :: outer))) hfr (funFrames_of hl1 fun b hb=>PySem.W.hideAll_none _ (List.mem_cons_of_mem _ hb)) hf ((other e (Ne.symm hTe)).trans he)
    (fun b o hb=>PySem.W.of_hideAll _ hb) (PySem.W.hideAll_none _ List.mem_cons_self) hd (Array.getElem?_eq_some_iff.mp h1).1 h0 fun h' x=>?_
  obtain ⟨T',y⟩:=left_of (s:={ s with heap:=s.heap.update T (Obj.mapFields (·.setIfInBounds 3 Value.none)) }) hl1 x
  exact h _ h' T' other hT1 y
theorem leave_next {cls:Value} {T:Addr} {Q:Unit→Shared→Prop} (hfr:A.frames=some (env :: outer)) (hl:s.heap.FunFrames base (env :: outer)) (hf:env.frame=some L)
    (hx:ExcAt cls T e s.heap) (hT:TrAt T s.heap) (hTe:T≠e)
    (h:∀ h1 h' T',(∀ b,b≠T→h1.get? b=s.heap.get? b)→TrAt T h1→Left (frs (env :: outer)) e cls T' h1 h'→Q () { s with heap:=h' }):wpAny M A (leaving env (.ref e)) Q E s:=by
  unfold leaving
  exact wpAny_bind (note_next hfr hl hf hx hT hTe h)
end
theorem ObjOk.has {P:Program} {w:World} {H:Hp} {h:Heap} {a:Addr} {o:HO} (x:ObjOk P w H h a o):∃ u,h.get? a=some u:=by
  cases o with
  | lst xs=>obtain ⟨_,_,_,_,e⟩:=x; exact ⟨_,e⟩
  | tup xs=>obtain ⟨_,_,_,ob,e,_⟩:=x; exact ⟨_,e⟩
  | dK kvs=>obtain ⟨_,_,_,_,ob,_,_,e,_⟩:=x; exact ⟨_,e⟩
  | dT kvs=>obtain ⟨_,_,_,_,ob,_,_,e,_⟩:=x; exact ⟨_,e⟩
  | set S n=>obtain ⟨ob,_,_,_,e,_⟩:=x; exact ⟨_,e⟩
  | ins C dx fs=>obtain ⟨_,_,_,e,_⟩:=x; exact ⟨_,e⟩
  | own y=>exact x
  | xd fs=>obtain ⟨_,⟨ob,_,_,e,_⟩,_⟩:=x; exact ⟨_,e⟩
  | rng lo hi=>obtain ⟨_,_,_,e⟩:=x; exact ⟨_,e⟩
  | frz ob u=>exact ⟨_,x.1⟩
  | tbl ps=>exact ⟨_,x⟩
  | met f y=>exact ⟨_,x⟩
  | ext φ=>exact x.2.1
theorem HOk.new {P:Program} {w:World} {H:Hp} {h:Heap} {a:Addr} (x:HOk P w H h) (e:h.get? a=none):H a=none:=by
  cases q:H a with
  | none=>rfl
  | some u =>
    obtain ⟨o,z⟩:=(x a u q).has
    rw [e] at z; cases z
abbrev xH (H:Hp) (T e:Addr) (cls:Value):Hp:=upd (upd H T (TrO T)) e (ExcO cls T e)
theorem xH_T {H:Hp} {T e:Addr} {cls:Value} (h:T≠e):xH H T e cls T=some (TrO T):=by
  show upd (upd H T (TrO T)) e (ExcO cls T e) T=_
  rw [upd_ne h]; exact upd_same
section
variable {P:Program} {w:World} {fs:List Addr} {e T T0:Addr} {cls:Value} {H:Hp} {h0 h1 h':Heap}
theorem Left.un (x:Left fs e cls T h1 h') (hok:HOk P w H h0) (hfs:∀ b∈fs,H b=none) (k:∀ b o,h0.get? b=some o→b≠T0→h1.get? b=some o) (kn:∀ b,h1.get? b=none→h0.get? b=none)
    (e1:∀ o,h0.get? e=some o→∃ T1,H e=some (ExcO cls T1 e)) (t1:T0=e∨(H T0=some (TrO T0)∧TrAt T0 h1)):Un fs [] H (xH H T e cls) h0 h'∧HOk P w (xH H T e cls) h':=by
  have hT0:h0.get? T=none:=kn T x.new
  have hTn:H T=none:=hok.new hT0
  have exx:∀ u,H e=some u→∃ T1,u=ExcO cls T1 e:=fun u q=>by
    obtain ⟨o,z⟩:=(hok e u q).has
    obtain ⟨T1,r⟩:=e1 o z
    rw [r] at q; cases q; exact ⟨T1,rfl⟩
  have gen:∀ b u,H b=some u→(∀ φ,u≠.ext φ)→xH H T e cls b=some u:=fun b u q ne=>by
    have hbe:b≠e:=fun z=>by
      subst z
      obtain ⟨T1,r⟩:=exx u q
      exact ne _ r
    have hbT:b≠T:=fun z=>by subst z; rw [hTn] at q; cases q
    show upd (upd H T (TrO T)) e (ExcO cls T e) b=some u
    rw [upd_ne hbe,upd_ne hbT]; exact q
  have ke:∀ b o,h0.get? b=some o→H b=none→b≠e:=fun b o q n z=>by
    subst z
    obtain ⟨T1,r⟩:=e1 o q
    rw [n] at r; cases r
  have kT:∀ b o,h0.get? b=some o→H b=none→b≠T0:=fun b o q n z=>by
    rcases t1 with r | ⟨r,_⟩
    · exact ke b o q n (z.trans r)
    · subst z; rw [n] at r; cases r
  have on:∀ b o,h1.get? b=some o→b≠e→∃ o',h'.get? b=some o':=fun b o q hbe=>by
    by_cases hb:b∈fs
    · obtain ⟨sl,z⟩:=x.slot b o q hb
      exact ⟨_,z⟩
    · exact ⟨o,x.keep b o q hb hbe⟩
  refine ⟨⟨fun b o q n hb _=>x.keep b o (k b o q (kT b o q n)) hb (ke b o q n),fun b o q n hb _=>x.slot b o (k b o q (kT b o q n)) hb,fun b o q n _=>?_,fun b o q _=>?_,fun b xs q=>gen b _ q fun φ z=>(nomatch z),fun b o u q=>gen b _ q fun φ z=>(nomatch z),fun b ps q=>⟨#[],by rw [gen b _ q fun φ z=>(nomatch z)]; simp⟩⟩,fun b u q=>?_⟩
  · have hbT:b≠T:=fun z=>by subst z; rw [hT0] at q; cases q
    show upd (upd H T (TrO T)) e (ExcO cls T e) b=none
    rw [upd_ne (ke b o q n),upd_ne hbT]; exact n
  · by_cases hbe:b=e
    · subst hbe
      obtain ⟨oe,_,_,z,_⟩:=x.exc
      exact ⟨oe,z⟩
    · by_cases hb0:b=T0
      · subst hb0
        rcases t1 with r | ⟨_,oT,_,z,_⟩
        · exact absurd r hbe
        · exact on b oT z hbe
      · exact on b o (k b o q hb0) hbe
  · by_cases hbe:b=e
    · subst hbe
      have:u=ExcO cls T b:=by
        have q':upd (upd H T (TrO T)) b (ExcO cls T b) b=some u:=q
        rw [upd_same] at q'; cases q'; rfl
      subst this
      exact excO_ok x.exc
    · have q1:upd (upd H T (TrO T)) e (ExcO cls T e) b=some u:=q
      rw [upd_ne hbe] at q1
      by_cases hbT:b=T
      · subst hbT
        rw [upd_same] at q1; cases q1
        exact trO_ok x.tr
      · rw [upd_ne hbT] at q1
        have hbf:b ∉ fs:=fun z=>by rw [hfs b z] at q1; cases q1
        by_cases hb0:b=T0
        · subst hb0
          rcases t1 with r | ⟨r,oT,ts,z,y⟩
          · exact absurd r hbe
          · rw [r] at q1; cases q1
            exact trO_ok ⟨oT,ts,x.keep b oT z hbf hbe,y⟩
        · refine (hok b u q1).stay (fun c v hc q2=>?_) (fun c q2=>gen c _ q2 fun φ z=>(nomatch z)) fun c xs q2=>gen c _ q2 fun φ z=>(nomatch z)
          rcases hc with rfl | hc
          · exact x.keep c v (k c v q2 hb0) hbf hbe
          · have hce:c≠e:=fun z=>by
              subst z
              obtain ⟨T1,r⟩:=exx _ hc
              cases r
            have hc0:c≠T0:=fun z=>by
              rcases t1 with r | ⟨r,_⟩
              · exact hce (z.trans r)
              · subst z; rw [r] at hc; cases hc
            exact x.keep c v (k c v q2 hc0) (fun z=>by rw [hfs c z] at hc; cases hc) hce
end
section
variable {X:Cx} {pins:List (Addr × Obj)} {σ:St} {H H':Hp} {s:Shared} {h':Heap}
theorem Inv.out (I:Inv X pins σ H s) (hx:X.ex=[]) (u:Un (frs X.stack) [] H H' s.heap h'):Un (frs X.outer) [] X.H₀ H' X.s₀.heap h':=by
  have hsub:∀ b∈X.fs,b∈frs X.stack:=fun b hb=>by
    rcases I.ok.stk with e | ⟨e,hf⟩
    · rw [e]; exact hb
    · rw [e]; unfold frs; rw [List.filterMap_cons,hf]; exact List.mem_cons_of_mem _ hb
  have b0:=I.base
  rw [hx] at b0
  have t:=(b0.mono (fs':=frs X.stack) (ex':=[]) hsub fun _ z=>z).trans u
  refine ⟨fun b o q n hb hx=>t.keep b o q n (fun z=>?_) hx,fun b o q n hb hx=>t.slot b o q n (hsub b hb) hx,t.free,t.there,t.tups,t.frzs,t.tbls⟩
  rcases List.mem_cons.mp (I.stkSub b z) with r | r
  · subst r
    exact absurd (Nat.lt_of_lt_of_le (Heap.lt_size q) I.ok.above) (Nat.lt_irrefl _)
  · exact hb r
end
section
variable {P:Program} {w:World} {K:PySem.W.Frag} {mg:Str→Option Value} {base:Heap} {N:List Str} {qual:Str} {scope:Scope} {f:Addr} {cd:Value} {A:Around} {outer:List Env} {s0:Shared} {H0:Hp} {E:XK}
  {pins:List (Addr × Obj)} {σ:St} {H:Hp} {s:Shared}
theorem made_leaves {cls:Value} {args:List Value} {e:Addr} {h1:Heap} (I:Inv (cxOf (CX1 P w) P w K mg base N qual scope f cd A outer s0 H0 E) pins σ H s) (hx:Heap.MadeExcOf s.heap h1 e cls args)
    (hE:∀ T,H e=none→H T=none→E cls (some e) (xH H T e cls)):(cxOf (CX1 P w) P w K mg base N qual scope f cd A outer s0 H0 E).xe (.ref e) { s with heap:=h1 }:=by
  have hl:=I.stack
  have hl1:h1.FunFrames base (envOfC qual scope s0.heap.objs.size f cd :: outer):=hl.of_keeps fun b o hb _=>⟨o,hx.keeps b o hb,rfl⟩
  obtain ⟨t,he,htn,ht⟩:=hx.there
  refine leave_first (s:={ s with heap:=h1 }) (L:=s0.heap.objs.size) I.ok.frames hl1 rfl he rfl rfl rfl fun h' T x=>?_
  have kn:∀ b,h1.get? b=none→s.heap.get? b=none:=fun b q=>by
    cases z:s.heap.get? b with
    | none=>rfl
    | some o=>rw [hx.keeps b o z] at q; cases q
  have He:H e=none:=I.hok.new hx.new
  obtain ⟨u,ok⟩:=x.un (P:=P) (w:=w) (T0:=e) (H:=H) (h0:=s.heap) I.hok I.stkFree (fun b o q _=>hx.keeps b o q) kn (fun o q=>by rw [hx.new] at q; cases q) (.inl rfl)
  exact ⟨e,T,cls,_,rfl,x.ne,I.os,I.bare,I.out rfl u,ok,upd_same,xH_T x.ne,hE T He (I.hok.new (kn T x.new))⟩
theorem passes1 (E1:XK) (hE:∀ cls e T H',H' e=some (ExcO cls T e)→E1 cls (some e) H'→∀ T',H' T'=none→E cls (some e) (xH H' T' e cls)):Passes (CX1 P w) (cxOf (CX1 P w) P w K mg base N qual scope f cd A outer s0 H0 E) E1:=by
  intro pins σ H s e s' I h
  obtain ⟨ea,T,cls,H',rfl,hTe,os,bare,un,ok,he,hT,q⟩:=h
  have J:Inv (cxOf (CX1 P w) P w K mg base N qual scope f cd A outer s0 H0 E) pins σ H' s':=I.call' (ch:=[]) os un ok bare fun b z=>absurd z (by simp)
  have a1:ExcAt cls T ea s'.heap:=(ok ea _ he).1
  have a2:TrAt T s'.heap:=(ok T _ hT).1
  refine leave_next (s:=s') (L:=s0.heap.objs.size) J.ok.frames J.stack rfl a1 a2 hTe fun h1 h' T' k1 k2 x=>?_
  have kn:∀ b,h1.get? b=none→s'.heap.get? b=none:=fun b q=>by
    by_cases hb:b=T
    · subst hb
      obtain ⟨oT,_,z,_⟩:=k2
      rw [z] at q; cases q
    · rw [← k1 b hb]; exact q
  obtain ⟨u,ok'⟩:=x.un (P:=P) (w:=w) (T0:=T) (H:=H') (h0:=s'.heap) J.hok J.stkFree (fun b o q hb=>by rw [k1 b hb]; exact q) kn (fun o _=>⟨T,he⟩) (.inr ⟨hT,k2⟩)
  exact ⟨ea,T',cls,_,rfl,x.ne,J.os,J.bare,J.out rfl u,ok',upd_same,xH_T x.ne,hE cls ea T H' he q T' (J.hok.new (kn T' x.new))⟩
end
end L2
namespace L2
open PySem PySem.Spec PyProof.Rows
abbrev vBm:List Value:=[.type "ValueError",.type "Exception",.type "BaseException",.type "object"]
theorem exc_cls {K:PySem.W.Frag} {h:Heap} {C:Addr} {bmB:List Value} {newId:String} {x:Str} {mg:Str→Option Value} (X:K.In h) (hb:mg x=some (.ref C)) (q:PySem.W.excIn K C bmB newId=true):OwnCls x C bmB newId mg h:=by
  refine ⟨hb,?_⟩
  unfold PySem.W.excIn at q
  split at q
  · rename_i dd cd sl ho
    split at q
    · rename_i C' bm k0 k1 k2 k3 n k5 hm hs
      simp only [Bool.and_eq_true,beq_iff_eq,Bool.not_eq_true'] at q
      obtain ⟨⟨⟨⟨⟨h1,h2⟩,h3⟩,h4⟩,h5⟩,h6⟩:=q
      subst h1; subst h2
      have e1:sl = #[k0,k1,k2,k3,some (.builtin n),k5]:=Array.toList_inj.mp hs
      subst e1
      have e2:cd={ name:=cd.name,bases:=cd.bases,mro:=.ref C' :: bm,ns:=cd.ns,qualname:=cd.qualname,hasDict:=cd.hasDict,slotNames:=cd.slotNames,subclasses:=cd.subclasses,abstract:=cd.abstract,collection:=cd.collection,hasDel:=false }:=by
        rw [← hm,← h3]
      have e3:=X _ _ ho
      rw [e2] at e3
      exact ⟨bm,cd.ns,cd.name,cd.qualname,cd.bases,cd.hasDict,cd.slotNames,cd.subclasses,cd.abstract,cd.collection,dd,k0,k1,k2,k3,k5,_,e3,.of_isNs (PySem.W.isNs_of_in X h5),PySem.W.nsMap_none_of_in X h5 h6,PySem.W.tail_of_in X h4⟩
    · cases q
  · cases q
def Throws (X:Cx) (E:XK):Prop:=∀ (pins:List (Addr × Obj)) (σ:St) (H:Hp) (s:Shared) (e:Addr) (h1:Heap) (cls:Value) (args:List Value),Inv X pins σ H s→Heap.MadeExcOf s.heap h1 e cls args →
  (∀ T,H e=none→H T=none→E cls (some e) (xH H T e cls))→X.xe (.ref e) { s with heap:=h1 }
theorem throws1 {P:Program} {w:World} {K:PySem.W.Frag} {mg:Str→Option Value} {base:Heap} {N:List Str} {qual:Str} {scope:Scope} {f:Addr} {cd:Value} {A:Around} {outer:List Env} {s0:Shared} {H0:Hp} {E:XK} :
    Throws (cxOf (CX1 P w) P w K mg base N qual scope f cd A outer s0 H0 E) E:=fun _ _ _ _ _ _ _ _ I hx hE=>made_leaves I hx hE
def tRaise (C:Addr) (E:XK) (t:TA):TS:=fun _ σ H=>t σ H fun vs H1=>vs.length≤sizeLine∧∀ e T,H1 e=none→H1 T=none→E (.ref C) (some e) (xH H1 T e (.ref C))
theorem ps_raise {X:Cx} {x:Str} {C:Addr} {E:XK} {a:Expr} {as:List Expr} {t:TA} {np cpos pos:Pos} (hc:X.calm=true) (ht:Throws X E) (hg:Gl X x) (hm:X.mg x=some (.ref C)) (hq:PySem.W.excIn X.K C vBm "ValueError.__new__" = true) (ha:PA X (a :: as) t)
    (hdb:(x == ("__debug__" : Str))=false:=by decide) (he:starEach (a :: as) X.env=(false,eval a X.env) :: starEach as X.env:=by rfl) (hpl:(backTo cpos (starEach as X.env)).any (·.1)=false:=by rfl) :
    PS X (.Raise (some (.Call (.Name x np) (a :: as) [] cpos)) none pos) (tRaise C E t):=by
  intro pins s σ H D I h
  obtain ⟨_,bm,N,nm,q,bs,hdct,sn,sub,ab,col,dd,k0,k1,k2,k3,k5,mN,hC,hN,hni,T⟩:=exc_cls (x:=x) I.mod.kin hm hq
  have hb:bm.contains (.type "BaseException")=true:=T.hasType (by decide)
  refine wpAny_Raise_call_subT (C:=C) (nm:=nm) (q:=q) (N:=N) (bs:=bs) (bm:=bm) (hdct:=hdct) (sn:=sn) (sub:=sub) (ab:=ab) (col:=col) (dd:=dd) (k0:=k0) (k1:=k1) (k2:=k2) (k3:=k3) (k5:=k5) F.excBase_ValueError hb (I.ok.hd hc) ?_ hni (ld_glob I hg hm ⟨rfl,?_⟩ hdb)
  · rw [he]; show (false || (backTo cpos (starEach as X.env)).any (·.1))=false; rw [hpl]; rfl
  have h2:=ha cpos pins s σ H _ I h
  rw [he] at h2 ⊢
  refine Calls.evalArgs_plain (wpAny_mono h2 (fun us s1 ⟨vs,H1,I1,r,q1,q2⟩=>⟨rfl,?_,I1.bk _ _ hC,hN.keeps I1.bk,T.keeps I1.bk,fun h' e hx=>ht pins σ H1 s1 e h' _ _ I1 hx fun T h3 h4=>q2 e T h3 h4⟩) fun _ _ y=>y)
  rw [← r.length]; exact q1
abbrev TJ:=St→Hp→Str→VK→Prop
def PJ (X:Cx) (es:List Expr) (t:TJ):Prop :=
  ∀ (pins:List (Addr × Obj)) (s:Shared) (σ:St) (H:Hp) (acc:Str) (Q:VK),Inv X pins σ H s→t σ H acc Q→wpAny (model X.prog X.w) X.A (joinParts acc (evalEach es X.env)) (EP X pins σ Q) X.xe s
def tJ0:TJ:=fun _ H acc Q=>acc.length≤sizeLine∧Q (.str acc) H
def tJ1 (te:TE) (tj:TJ):TJ:=fun σ H acc Q=>te σ H fun v H1=>∃ y,v=.str y∧(acc++y).length≤sizeLine∧tj σ H1 (acc++y) Q
def tFmt (te:TE):TE:=fun σ H Q=>te σ H fun v H1=>(∃ y,v=.str y∧y.length≤sizeLine∧Q v H1)∨∃ i:Int,v=.int i∧i.natAbs.log2 < 1920∧Q (.str (toString i)) H1
section
variable {X:Cx} {e e2:Expr} {es:List Expr} {te te2:TE} {tj:TJ} {pos:Pos}
theorem pj_nil:PJ X [] tJ0:=fun pins s σ H acc Q I h=>joinParts_nil ⟨.str acc,H,I.tok _,⟨_,rfl⟩,h.2⟩ h.1
theorem pj_cons (he:PE X e te) (hj:PJ X es tj):PJ X (e :: es) (tJ1 te tj):=fun pins s σ H acc Q I h=>by
  refine joinParts_cons (thn (he pins s σ H _ I h) fun u s1 ⟨v,H1,I1,r,y,e1,hl,q⟩=>?_)
  subst e1
  obtain ⟨tk,rfl⟩:=r
  exact ⟨hl,hj pins s1 σ H1 _ Q I1 q⟩
theorem pe_fmt (he:PE X e te):PE X (.FormattedValue e (-1) none pos) (tFmt te):=fun pins s σ H Q I h=>by
  refine FormattedValue_plain (thn (he pins s σ H _ I h) fun u s1 ⟨v,H1,I1,r,q⟩=>?_)
  rcases q with ⟨y,rfl,hl,q⟩ | ⟨i,rfl,hl,q⟩
  · obtain ⟨tk,rfl⟩:=r
    exact formatField_str (fun t' tk=>⟨.str y,H1,I1.tok _,⟨t',rfl⟩,q⟩) hl
  · obtain ⟨tk,rfl⟩:=r
    exact formatField_int_small hl ⟨.str (toString i),H1,I1.tok _,⟨_,rfl⟩,q⟩
theorem pe_fstr (hj:PJ X (e :: e2 :: es) tj):PE X (.JoinedStr (e :: e2 :: es) pos) (fun σ H Q=>tj σ H Str.empty Q):=fun pins s σ H Q I h=>JoinedStr_many (hj pins s σ H Str.empty Q I h)
end
end L2
namespace L2
open PySem PySem.Spec PyProof.Rows
structure Cal1 (P:Program) (w:World) (K:PySem.W.Frag) (mg:Str→Option Value) (base:Heap) (x:Str) (k:Nat) (ps:List Str) (sp:Sp):Prop where
  ex:∃ (f:Addr) (fd:FuncData),FnOk P w K mg base (CX1 P w) k f fd ps sp∧Binds K fd ps []∧PySem.W.keepIn K (.ref f)=true∧mg x=some (.ref f)
theorem FnOk.to1 {P:Program} {w:World} {K:PySem.W.Frag} {mg:Str→Option Value} {base:Heap} {CX:CXT} {k:Nat} {f:Addr} {fd:FuncData} {ps:List Str} {sp:Sp} (F:FnOk P w K mg base CX0 k f fd ps sp):FnOk P w K mg base CX k f fd ps sp :=
  ⟨F.len,fun A outer s H args us vs Q E hr he hb hv hs=>codeAny_mono (F.run A outer s H args us vs Q E hr he hb hv hs) fun r s' q=>by
    cases r with
    | error e=>exact False.elim q
    | ok fl=>cases fl <;> exact q⟩
section
variable {P:Program} {w:World} {K:PySem.W.Frag} {mg:Str→Option Value} {base:Heap} {x:Str} {ps:List Str} {sp:Sp}
theorem Cal.to1 {k:Nat} (C:Cal P w K mg base x k ps sp):Cal1 P w K mg base x k ps sp:=by
  obtain ⟨f,fd,F,r⟩:=C.ex
  exact ⟨f,fd,F.to1,r⟩
theorem Has.mk1 {st:Stmt} {N:List Str} {k:Nat} (h:Has K mg x st ps) (S:FnScope N ps (defScope st)) (len:∀ vs H Q E,sp vs H Q E→vs.length=ps.length)
    (hbody:∀ (f:Addr) (cdv:Value) (A:Around) (outer:List Env) (s:Shared) (H:Hp) (vs:List V) (Q:VK) (E:XK),Room k (A.deeper (envOfC x (defScope st) s.heap.objs.size f cdv))→sp vs H Q E →
      ∃ t,PSs (cxOf (CX1 P w) P w K mg base N x (defScope st) f cdv A outer s H E) (defBody st) t∧t { nx:=fun _ H'=>Q .non H',rt:=Q } (start N vs) H):Cal1 P w K mg base x (k+1) ps sp:=by
  obtain ⟨f,fd,F,b,m⟩:=h.ex
  obtain ⟨oc,od,kV,doc,pm,an,cdv,ct,osl,rfl,lk,hcd⟩:=F.ex
  exact ⟨f,_,fn_of lk hcd S len fun A outer s H vs Q E hr hsp=>hbody f cdv A outer s H vs Q E hr hsp,b,F.kp,m⟩
end
def PassesS (CX:CXT) (X:Cx) (E:St→XK):Prop:=∀ (pins:List (Addr × Obj)) (σ:St) (H:Hp) (s:Shared) (e:Value) (s':Shared),Inv X pins σ H s→CX X.stack H s (E σ) e s'→X.xe e s'
theorem Passes.s {CX:CXT} {X:Cx} {E:XK} (h:Passes CX X E):PassesS CX X fun _=>E:=h
def tCallS (sp:Sp) (E:St→XK) (t:TA):TE:=fun σ H Q=>t σ H fun vs H1=>sp vs H1 Q (E σ)
theorem pe_cal1 {X:Cx} {x:Str} {k n:Nat} {ps:List Str} {sp:Sp} {E:St→XK} {e:Expr} {es:List Expr} {t:TA} {p pos:Pos} (C:Cal1 X.prog X.w X.K X.mg X.base x k ps sp) (hr:Room n X.A) (hk:k≤n) (hg:Gl X x) (hx:PassesS (CX1 X.prog X.w) X E) (ha:PA X (e :: es) t)
    (hdb:(x == ("__debug__" : Str))=false:=by decide) (he:starEach (e :: es) X.env=(false,eval e X.env) :: starEach es X.env:=by rfl) (hpl:(backTo pos (starEach es X.env)).any (·.1)=false:=by rfl) :
    PE X (.Call (.Name x p) (e :: es) [] pos) (tCallS sp E t):=by
  obtain ⟨f,fd,F,b,kp,m⟩:=C.ex
  intro pins s σ H Q I h
  refine wpAny_Call_Name_kw (ld_glob I hg m ?_ hdb)
  refine PySem.W.callWith_K (h₀:=X.base) I.ok.mod.kin kp (thn (ha pos pins s σ H _ I h) fun us s1 ⟨vs,H1,I1,r,q⟩=>⟨I1.kIn,?_⟩) he hpl
  have hl:us.length=ps.length:=by rw [← r.length]; exact F.len _ _ _ _ q
  refine wpAny_call (codeAny_mono ((F.mono hk).run X.A X.stack s1 H1 ⟨us,[]⟩ us vs Q (E σ) hr I1.env0 (by have:=b s1 us I1.kIn (by rw [List.append_nil]; exact hl); rw [List.append_nil] at this; exact this) r q) fun r s' hq=>?_)
  cases r with
  | error e=>exact hx pins σ H1 s1 e s' I1 hq
  | ok fl =>
    cases fl with
    | ret u=>exact I1.after hq
    | next=>exact False.elim hq
    | brk=>exact False.elim hq
    | cont=>exact False.elim hq
end L2
namespace L2
open PySem PySem.Spec PyProof.Rows
abbrev XR:=Value→Addr→St→Hp→Prop
def Flown (X:Cx) (pins:List (Addr × Obj)) (R:XR) (e:Value) (s:Shared):Prop:=∃ (ea T:Addr) (cls:Value) (σ:St) (H:Hp),e=.ref ea∧T≠ea∧Inv X pins σ H s∧H ea=some (ExcO cls T ea)∧H T=some (TrO T)∧R cls ea σ H
abbrev tryCx (X:Cx) (pins:List (Addr × Obj)) (R:XR):Cx:={ X with pn:=X.pn++pins,xe:=Flown X pins R }
section
variable {X:Cx} {pins more:List (Addr × Obj)} {σ:St} {H:Hp} {s:Shared} {R:XR}
theorem okTry (ok:X.Ok):(tryCx X pins R).Ok:=⟨ok.mod,ok.kind,ok.glob,ok.blt,ok.above,ok.inj,ok.has,ok.cab,ok.hd,ok.frames,ok.stk,ok.exf,ok.bs,ok.bsz,ok.noex,ok.exfs,ok.funs,ok.frf⟩
theorem okUntry (ok:(tryCx X pins R).Ok):X.Ok:=⟨ok.mod,ok.kind,ok.glob,ok.blt,ok.above,ok.inj,ok.has,ok.cab,ok.hd,ok.frames,ok.stk,ok.exf,ok.bs,ok.bsz,ok.noex,ok.exfs,ok.funs,ok.frf⟩
theorem Inv.toTry (I:Inv X pins σ H s):Inv (tryCx X pins R) [] σ H s:=⟨okTry I.ok,I.os,I.bare,I.base,I.loc,I.cell,I.free,I.freeC,fun p hp=>I.pin p (by
  have hp':p∈(X.pn++pins)++[]:=hp
  rw [List.append_nil] at hp'; exact hp'),I.hok,I.len⟩
theorem Inv.ofTry (I:Inv (tryCx X pins R) more σ H s):Inv X pins σ H s:=⟨okUntry I.ok,I.os,I.bare,I.base,I.loc,I.cell,I.free,I.freeC,fun p hp=>I.pin p (List.mem_append_left _ hp),I.hok,I.len⟩
theorem SP.ofTry {D:Ends} {f:Flow} {s':Shared} (h:SP (tryCx X pins R) [] D f s'):SP X pins D f s':=by
  cases f with
  | next=>obtain ⟨σ',H',I,q⟩:=h; exact ⟨σ',H',I.ofTry,q⟩
  | brk=>obtain ⟨σ',H',I,q⟩:=h; exact ⟨σ',H',I.ofTry,q⟩
  | cont=>obtain ⟨σ',H',I,q⟩:=h; exact ⟨σ',H',I.ofTry,q⟩
  | ret u=>obtain ⟨v,σ',H',I,r,q⟩:=h; exact ⟨v,σ',H',I.ofTry,r,q⟩
theorem passesT:PassesS (CX1 X.prog X.w) (tryCx X pins R) (fun σ cls o H'=>∀ e,o=some e→R cls e σ H'):=by
  intro more σ H s e s' I h
  obtain ⟨ea,T,cls,H',rfl,hTe,os,bare,un,ok,he,hT,q⟩:=h
  exact ⟨ea,T,cls,σ,H',rfl,hTe,I.ofTry.call' (ch:=[]) os un ok bare fun b z=>absurd z (by simp),he,hT,q ea rfl⟩
theorem flown_looks {M:Model} {ea T:Addr} {cls:Value} {E:Value→Shared→Prop} {Q:Unit→Shared→Prop} (I:Inv X pins σ H s) (hst:X.stack=X.env :: X.outer) (hf:X.env.frame=some X.env.locals) (hTe:T≠ea) (he:H ea=some (ExcO cls T ea)) (hT:H T=some (TrO T))
    (h:∀ s' T',Inv X pins σ (xH H T' ea cls) s'→T'≠ea→H T'=none→Q () s'):wpAny M X.A (noteFrame (.ref ea) X.env) (fun _ s'=>wpAny M X.A (setFlight (.ref ea) none) Q E s') E s:=by
  have a1:ExcAt cls T ea s.heap:=(I.hok ea _ he).1
  have a2:TrAt T s.heap:=(I.hok T _ hT).1
  have hl:=I.stack
  have hfr:=I.ok.frames
  have hfree:=I.stkFree
  rw [hst] at hl hfr hfree
  refine note_next (L:=X.env.locals) hfr hl hf a1 a2 hTe fun h1 h' T' k1 k2 x=>?_
  have kn:∀ b,h1.get? b=none→s.heap.get? b=none:=fun b q=>by
    by_cases hb:b=T
    · subst hb
      obtain ⟨oT,_,z,_⟩:=k2
      rw [z] at q; cases q
    · rw [← k1 b hb]; exact q
  obtain ⟨u,ok'⟩:=x.un (P:=X.prog) (w:=X.w) (T0:=T) (H:=H) (h0:=s.heap) I.hok hfree (fun b o q hb=>by rw [k1 b hb]; exact q) kn (fun o _=>⟨T,he⟩) (.inr ⟨hT,k2⟩)
  exact h _ T' (I.call' (ch:=[]) (s':={ s with heap:=h' }) rfl (by rw [hst]; exact u) ok' I.bare fun b z=>absurd z (by simp)) x.ne (I.hok.new (kn T' x.new))
theorem flight_none {M:Model} {A:Around} {ea T:Addr} {cls:Value} {E:Value→Shared→Prop} {Q:Unit→Shared→Prop} (I:Inv X pins σ H s) (he:H ea=some (ExcO cls T ea)) (hT:H T=some (TrO T))
    (h:∀ s',Inv X pins σ H s'→Q () s'):wpAny M A (setFlight (.ref ea) none) Q E s:=by
  obtain ⟨oe,vs,a0,he1,_,hd,h0,h1⟩:ExcAt cls T ea s.heap:=(I.hok ea _ he).1
  obtain ⟨oT,ts,hT1,hdT,h3⟩:TrAt T s.heap:=(I.hok T _ hT).1
  have hsz3:3 < ts.size:=(Array.getElem?_eq_some_iff.mp h3).1
  unfold setFlight
  refine wpAny_bind (wpAny_field he1 hd h1 ?_)
  rw [if_pos (show (Value.ref T != Value.none)=true from by simp)]
  have hup:upd H T (TrO T)=H:=by
    funext b
    unfold upd
    split
    · rename_i e; subst e; exact hT.symm
    · rfl
  have mT:TrAt T (s.heap.update T (Obj.mapFields (·.setIfInBounds 3 ((none:Option Addr).elim Value.none fun f=>rawInt f)))) :=
    ⟨_,_,Heap.get?_update_self _ hT1 (Obj.isFreed_of_fields (Obj.data_mapFields hdT _)),Obj.data_mapFields hdT _,by simp [hsz3]⟩
  refine wpAny_setField hT1 hdT hsz3 (h _ ?_)
  have W:=I.write (x:=T) (e:=T) (o:=TrO T) (t':=s.toks) (h':=s.heap.update T (Obj.mapFields (·.setIfInBounds 3 ((none:Option Addr).elim Value.none fun f=>rawInt f)))) (by rw [hT]; trivial) (.inl rfl)
    (fun b u hb q=>(Heap.get?_update_other _ _ (Ne.symm hb)).trans q) (by obtain ⟨o,_,z,_⟩:=mT; exact ⟨o,z⟩) (trO_ok mT)
  rw [hup] at W
  exact W
end
end L2
namespace L2
open PySem PySem.Spec PyProof.Rows
abbrev exCx (X:Cx) (e:Addr):Cx:={ X with A:=X.A.mark (some (.ref e)),calm:=false,xe:=fun _ _=>False }
section
variable {X:Cx} {pins:List (Addr × Obj)} {σ:St} {H:Hp} {s:Shared} {e:Addr}
theorem okEx (ok:X.Ok):(exCx X e).Ok:=⟨ok.mod,ok.kind,ok.glob,ok.blt,ok.above,ok.inj,ok.has,ok.cab,(fun z=>Bool.noConfusion (show false=true from z)),ok.frames,ok.stk,ok.exf,ok.bs,ok.bsz,ok.noex,ok.exfs,ok.funs,ok.frf⟩
theorem Inv.toEx (I:Inv X pins σ H s):Inv (exCx X e) pins σ H s:=⟨okEx I.ok,I.os,I.bare,I.base,I.loc,I.cell,I.free,I.freeC,I.pin,I.hok,I.len⟩
theorem Inv.ofEx (hk:X.Ok) (I:Inv (exCx X e) pins σ H s):Inv X pins σ H s:=⟨hk,I.os,I.bare,I.base,I.loc,I.cell,I.free,I.freeC,I.pin,I.hok,I.len⟩
theorem name_gone {M:Model} {A:Around} {n:Str} {i:Nat} {pos:Pos} {E:Value→Shared→Prop} {Q:Unit→Shared→Prop} (I:Inv X pins σ H s) (hN:X.N.Nodup) (hi:X.N[i]?=some n) (hl:X.env.kindOf n=some .local)
    (h:∀ s',Inv X pins (σ.set i none) H s'→Q () s'):wpAny M A (do bindName X.env n .none; unbindBehindTheSuite X.env n pos) Q E s:=by
  obtain ⟨m,hn,hm⟩:=id I.loc
  have hcls:(X.env.scope.kind == .class || (X.env.scope.kind == .module && X.env.locals != X.env.globals))=false:=by rw [I.ok.kind]; rfl
  have hiσ:i < σ.length:=by rw [I.len]; exact (List.getElem?_eq_some_iff.mp hi).1
  refine wpAny_nameGoes_keeps hl hn hcls fun h' v hn' hs=>h _ ?_
  have ab:∀ b o,X.s₀.heap.get? b=some o→b≠X.env.locals:=fun b o e=>Nat.ne_of_lt (Nat.lt_of_lt_of_le (Heap.lt_size e) I.ok.above)
  refine ⟨I.ok,I.os,I.bare,⟨fun b o e n hb hx=>(hs.2 b (ab b o e)).trans (I.base.keep b o e n hb hx),fun b o e n hb hx=>?_,I.base.free,fun b o e hx=>?_,I.base.tups,I.base.frzs,I.base.tbls⟩,⟨_,hn',fun j y v' e1 e2 e3=>?_⟩,fun y c e=>?_,I.free,I.freeC,fun p hp=>?_,fun b ob e=>?_,by simpa using I.len⟩
  · obtain ⟨sl,e1⟩:=I.base.slot b o e n hb hx
    exact ⟨sl,(hs.2 b (ab b o e)).trans e1⟩
  · obtain ⟨o',e1⟩:=I.base.there b o e hx
    exact ⟨o',(hs.2 b (ab b o e)).trans e1⟩
  · have hj:j≠i:=fun z=>by
      subst z
      rw [List.getElem?_set_self hiσ] at e2
      cases e2
    rw [List.getElem?_set_ne (Ne.symm hj)] at e2
    obtain ⟨u',r',q⟩:=hm j y v' e1 e2 e3
    refine ⟨u',r',?_⟩
    rcases q with ⟨k,e⟩ | ⟨k,c,e,z⟩
    · refine .inl ⟨k,?_⟩
      have:y≠n:=fun e=>hj (nodup_ix hN e1 (e ▸ hi))
      simp [this,e]
    · exact .inr ⟨k,c,e,z.sameBut hs (I.cne y c e)⟩
  · obtain ⟨w',z⟩:=I.cell y c e
    exact ⟨w',z.sameBut hs (I.cne y c e)⟩
  · obtain ⟨e,n,ne,nf,d⟩:=I.pin p hp
    exact ⟨(hs.2 p.1 ne).trans e,n,ne,nf,d⟩
  · refine (I.hok b ob e).stay (fun c w' hc q=>(hs.2 c ?_).trans q) (fun _ q=>q) fun _ _ q=>q
    rintro rfl
    rcases hc with rfl | hc
    · have:=I.free; rw [e] at this; cases this
    · have:=I.free; rw [hc] at this; cases this
end
structure Under (K:PySem.W.Frag) (D:Addr) (cls:Value):Prop where
  ex:∃ C,cls=.ref C∧PySem.W.subIn K (.ref C) (.ref D)=some true
theorem excMatches_own {M:Model} {A:Around} {E:Value→Shared→Prop} {K:PySem.W.Frag} {h:Heap} {g:Array GenState} {d:Drawn} {t:Nat} {os:OsState} {e C D:Addr} {oe:Obj} {x:Str} {mg:Str→Option Value} {Q:Bool→Shared→Prop}
    (X:K.In h) (O:OwnCls x D vBm "ValueError.__new__" mg h) (he:h.get? e=some oe) (hcls:oe.cls=.ref C) (hs:PySem.W.subIn K (.ref C) (.ref D)=some true)
    (hq:Q true ⟨h,g,d,t,os⟩):wpAny M A (excMatches (.ref e) (.ref D)) Q E ⟨h,g,d,t,os⟩:=by
  obtain ⟨_,bm,N,nm,q,bs,hdct,sn,sub,ab,col,dd,k0,k1,k2,k3,k5,mN,hC,hN,hni,T⟩:=O
  have hb:bm.contains (.type "BaseException")=true:=T.hasType (by decide)
  have hcB:(Value.ref D :: bm).contains (.type "BaseException")=true:=by rw [List.contains_cons,hb,Bool.or_true]
  have f:=tc_notTuple
  have L4:PySem.W.Looks M h (isSubtype (.ref C) (.ref D)) true:=PySem.W.looks_subIn X hs
  unfold excMatches
  repeat (first | (with_reducible refine wpAny_loadPart_at he ?_; rw [hcls]) | with_reducible refine wpAny_loadPart_at hC ?_ | (with_reducible refine wpAny_isSubtype_exc hC ?_; rw [hcB]) | (with_reducible refine L4.at ?_) | wp_step)
  exact hq
end L2
namespace L2
open PySem PySem.Spec PyProof.Rows
def endsEx (i:Nat) (D:Ends):Ends:={ nx:=fun σ H=>D.nx (σ.set i none) H,rt:=D.rt,bk:=fun σ H=>D.bk (σ.set i none) H,ct:=fun σ H=>D.ct (σ.set i none) H }
def rEx (K:PySem.W.Frag) (W:Addr) (i:Nat) (th:TS) (D:Ends):XR:=fun cls ea σ H=>Under K W cls∧∀ T',T'≠ea→H T'=none→th (endsEx i D) (σ.set i (some (.ref ea))) (xH H T' ea cls)
def tTry (K:PySem.W.Frag) (W:Addr) (i:Nat) (tb:XR→TS) (th:TS):TS:=fun D σ H=>tb (rEx K W i th D) D σ H
theorem ps_try_as {X:Cx} {x n:Str} {i:Nat} {W:Addr} {body suite:List Stmt} {b₀:Stmt} {tb:XR→TS} {th:TS} {np hpos pos:Pos} (hb:∀ pins R,PSs (tryCx X pins R) body (tb R)) (hs:∀ e,PSs (exCx X e) (b₀ :: suite) th)
    (hg:Gl X x) (hm:X.mg x=some (.ref W)) (hq:PySem.W.excIn X.K W vBm "ValueError.__new__" = true) (hN:X.N.Nodup) (hi:X.N[i]?=some n) (hl:X.env.kindOf n=some .local) (hst:X.stack=X.env :: X.outer) (hf:X.env.frame=some X.env.locals)
    (hdb:(x == ("__debug__" : Str))=false:=by decide) :
    PS X (.Try body [.ExceptHandler (some (.Name x np)) (some n) (b₀ :: suite) hpos] [] [] pos) (tTry X.K W i tb th):=by
  intro pins s σ H D I h
  refine wpAny_Try_except (wpAny_mono (hb pins (rEx X.K W i th D) [] s σ H D I.toTry h) (fun f s1 q=>?_) fun e s1 q=>?_)
  · have q':=SP.ofTry q
    cases f with
    | next=>exact wpAny_execs_nil q'
    | brk=>exact q'
    | cont=>exact q'
    | ret u=>exact q'
  · obtain ⟨ea,T,cls,σ1,H1,rfl,hTe,I1,he,hT,⟨C,rfl,hsub⟩,q⟩:=q
    refine flown_looks I1 hst hf hTe he hT fun s2 T' I2 hT'e hT'n=>?_
    have he2:xH H1 T' ea (.ref C) ea=some (ExcO (.ref C) T' ea):=upd_same
    have hT2:xH H1 T' ea (.ref C) T'=some (TrO T'):=xH_T hT'e
    obtain ⟨oe,vs,a0,he3,hcls,hd3,_⟩:ExcAt (.ref C) T' ea s2.heap:=(I2.hok ea _ he2).1
    refine wpAny_handleBy_cons (codeAny_handlers_test (ld_glob (X:=exCx X ea) I2.toEx hg hm ?_ hdb)) (by intro z; cases z)
    refine excMatches_own (x:=x) (mg:=X.mg) I2.kIn (exc_cls I2.kIn hm hq) he3 hcls hsub ?_
    refine codeAny_handlers_suite_as ?_
    refine flight_none (X:=exCx X ea) I2.toEx he2 hT2 fun s3 I3=>?_
    refine store_ok (X:=exCx X ea) (i:=i) (v:=.ref ea) I3 hN hi (.inl hl) rfl (fun s4 I4=>?_) (.inr hl)
    refine wpAny_mono (hs ea pins s4 _ _ (endsEx i D) I4 (q T' hT'e hT'n)) (fun f s5 q5=>?_) fun _ _ z=>False.elim z
    cases f with
    | next =>
      obtain ⟨σ',H',J,q6⟩:=q5
      exact name_gone (J.ofEx I2.ok) hN hi hl fun s6 J6=>⟨_,_,J6,q6⟩
    | brk =>
      obtain ⟨σ',H',J,q6⟩:=q5
      exact name_gone (J.ofEx I2.ok) hN hi hl fun s6 J6=>⟨_,_,J6,q6⟩
    | cont =>
      obtain ⟨σ',H',J,q6⟩:=q5
      exact name_gone (J.ofEx I2.ok) hN hi hl fun s6 J6=>⟨_,_,J6,q6⟩
    | ret u =>
      obtain ⟨v,σ',H',J,r,q6⟩:=q5
      exact name_gone (J.ofEx I2.ok) hN hi hl fun s6 J6=>⟨v,_,_,J6,r,q6⟩
end L2
namespace L2
open PySem PySem.Spec PySem.Calls PyProof.Rows PySem.W Builtin.Getset_descriptor
section
variable {prog:Program} {w:World} {A:Around} {E:Value→Shared→Prop} {K:Frag} {x C D:Addr} {ox:Obj} {h:Heap} {g:Array GenState} {d:Drawn} {t:Nat} {os:OsState}
structure ObAt (h:Heap) (x:Addr) (ox:Obj) (D:Addr):Prop where
  at_:h.get? x=some ox
  cls:ox.cls=.ref D
theorem ObAt.type {M:Model} (I:ObAt h x ox D):Looks M h (typeOf (.ref x)) (.ref D):=I.cls ▸ (Looks.ld I.at_).andThen .now
theorem ob_class {R:Result→Shared→Prop} {tp:Value} (X:K.In h) (I:ObAt h x ox D) (hm:mroIn K D (.type "object")=some true)
    (hq:R (.ok (.ret (.ref D))) ⟨h,g,d,t,os⟩):codeAny (model prog w) A (.call (.builtin "getset_descriptor.__get__") ⟨[.builtin "object.__class__",.ref x,tp],[]⟩) R ⟨h,g,d,t,os⟩:=by
  have L0:=I.type (M:=model prog w)
  have L1:=looks_mroIn (M:=model prog w) X hm
  refine codeAny_call_builtin KF.slot_gs.plain KF.entry_gs (KF.slot_gs.check _ _ _ _ _ _ _ _ KF.type_class (KF.args_gs _ _ _) ?_)
  unfold Builtin.«getset_descriptor.__get__» descrGet
  rw [dga_obj]
  refine wpAny_bind (wpAny_pure ?_)
  unfold descrGetter descrCheckInstance descrNameAndClass isInstance
  simp only [KF.owner_class]
  repeat lk
  refine ⟨Code.quiet_builtin _ (by decide +kernel),codeAny_builtin KF.entry_class ?_⟩
  unfold Builtin.«object.__class__» shownTypeOf
  repeat lk
  exact hq
structure ExcK (K:Frag) (D:Addr):Prop where
  ga:findIn K (.ref D) "__getattribute__" = some (some (.builtin "BaseException.__getattribute__"))
  no:findIn K (.ref D) "__getattr__" = some none
  cl:findIn K (.ref D) "__class__" = some (some (.builtin "object.__class__"))
  bs:subIn K (.ref D) (.type "BaseException")=some true
  ob:mroIn K D (.type "object")=some true
  is:isClsIn K D=true
theorem exc_entry {tk:Tok} {Q:Fin→Shared→Prop} (X:K.In h) (k:ExcK K D) (I:ObAt h x ox D) (hq:Q (.done (.ret (.ref D))) ⟨h,g,d,t,os⟩) :
    wpAny (model prog w) A (Builtin.«object.__getattribute__» ⟨[.ref x,.str "__class__" tk],[]⟩) Q E ⟨h,g,d,t,os⟩:=by
  have hx:=I.at_
  have hc:=I.cls
  have L1:Looks (model prog w) h (typeLookup (.ref D) "__class__") (some (.builtin "object.__class__")):=looks_findIn X k.cl
  have f5:=PySem.W.KF.type_class
  have f6:=F.slot_gs_get.lookup
  have f7:=F.slot_gs_set.lookup
  have hT5:(⟨h,g,d,t,os⟩:Shared).TypeIs (.builtin "object.__class__") "getset_descriptor":=PySem.W.KF.type_class
  repeat (any_goals (first | assumption | (with_reducible refine wpAny_loadPart_at hx ?_; rw [hc]) | (with_reducible refine L1.at ?_) | wp_step))
  refine ob_class (ox:=ox) X I k.ob ?_
  repeat (any_goals (first | assumption | wp_step))
theorem exc_check {nameV:Value} {Q:Unit→Shared→Prop} (X:K.In h) (k:ExcK K D) (I:ObAt h x ox D) (hq:Q () ⟨h,g,d,t,os⟩):wpAny (model prog w) A (checkBuiltinCall "BaseException.__getattribute__" ⟨[.ref x,nameV],[]⟩) Q E ⟨h,g,d,t,os⟩:=by
  have hx:=I.at_
  have hc:=I.cls
  have hk:builtinKind "BaseException.__getattribute__" = some .slot:=by decide +kernel
  have hsplit:splitId "BaseException.__getattribute__" = some ("BaseException", "__getattribute__"):=by decide +kernel
  have L1:Looks (model prog w) h (isSubtype (.ref D) (.type "BaseException")) true:=looks_subIn X k.bs
  have ha:=F.args_bexc_ga (.ref x) nameV
  simp only [checkBuiltinCall,hk,hsplit]
  refine wpAny_bind ?_
  · unfold isInstance
    repeat (first | (with_reducible refine wpAny_loadPart_at hx ?_; rw [hc]) | (with_reducible refine L1.at ?_) | wp_step)
    exact hq
theorem exc_by {tk:Tok} {Q:Value→Shared→Prop} (X:K.In h) (k:ExcK K D) (I:ObAt h x ox D) (hq:Q (.ref D) ⟨h,g,d,t,os⟩):wpAny (model prog w) A (getAttrBy (.ref x) (.str "__class__" tk) false) Q E ⟨h,g,d,t,os⟩:=by
  have hx:=I.at_
  have hc:=I.cls
  have f3:=F.excAttr_ValueError.ga.bind (.ref x)
  have hx0:(false && onTheHeap (Value.builtin "BaseException.__getattribute__"))=false:=rfl
  have hx2:(Value.builtin "BaseException.__getattribute__" == Value.builtin "object.__getattribute__")=false:=by decide +kernel
  have hx1:(onTheHeap (Value.ref D) && Value.builtin "BaseException.__getattribute__" == Value.builtin "object.__getattribute__")=false:=by rw [hx2]; rfl
  have L1:Looks (model prog w) h (typeLookup (.ref D) "__getattribute__") (some (.builtin "BaseException.__getattribute__")):=looks_findIn X k.ga
  have L2:Looks (model prog w) h (typeLookup (.ref D) "__getattr__") none:=looks_findIn X k.no
  repeat (any_goals (first | assumption | (with_reducible refine wpAny_loadPart_at hx ?_; rw [hc]) | (with_reducible refine L1.at ?_) | (with_reducible refine L2.at ?_) | wp_step))
  refine codeAny_call_builtin F.excAttr_ValueError.ga.plain F.entry_bexc_ga (exc_check X k I (exc_entry X k I ?_))
  repeat (any_goals (first | assumption | wp_step))
theorem exc_attr {Q:Option Value→Shared→Prop} (X:K.In h) (k:ExcK K D) (I:ObAt h x ox D) (hq:Q (some (.ref D)) ⟨h,g,d,t+1,os⟩):wpAny (model prog w) A (getAttr? (.ref x) "__class__") Q E ⟨h,g,d,t,os⟩:=by
  unfold getAttr? getAttrBy?
  refine wpAny_bind (wpAny_mkText (wpAny_bind (wpAny_attempt (exc_by X k I ?_))))
  exact wpAny_pure hq
theorem excn_nested {s:Shared} {c:Value} {dep:Int} {tk:Tok} {Q:Fin→Shared→Prop} (X:K.In s.heap) (k:ExcK K D) (I:ObAt s.heap x ox D) (hty:Looks (model prog w) s.heap (typeOf c) (.type "type")) (his:Looks (model prog w) s.heap (isType c) true)
    (hne:(Value.ref D == c)=false) (hsub:Looks (model prog w) s.heap (isSubtype (.ref D) c) false) (h:Q (.done (.ret (.bool false))) { s with toks:=s.toks+1 }) :
    wpAny (model prog w) A (Builtin.«isinstance.nested» ⟨[.ref x,c,.int dep tk],[]⟩) Q E s:=by
  have hisD:Looks (model prog w) s.heap (isType (.ref D)) true:=by
    have hcD:=k.is
    unfold isClsIn clsIn at hcD
    split at hcD
    · rename_i ho
      intro A' Q' E' s' kk q
      unfold isType loadHead
      exact wpAny_bind (wpAny_loadPart (kk _ _ (X _ _ ho)) (wpAny_pure q))
    · cases hcD
  obtain ⟨h0,g,d,tt,os⟩:=s
  have L0:=I.type (M:=model prog w)
  have LI:Looks (model prog w) h0 (isInstance (.ref x) c) false:=L0.andThen hsub
  unfold Builtin.«isinstance.nested»
  refine wpAny_bind (L0.at ?_)
  rw [if_neg (fun q=>by rw [hne] at q; exact Bool.noConfusion q)]
  refine wpAny_bind (hty.at ?_)
  rw [if_pos (by decide)]
  k_delta "plainIsInstance"
  refine wpAny_bind (wpAny_bind (his.at ?_))
  simp only [Bool.not_true,Bool.false_eq_true,if_false]
  refine wpAny_bind (LI.at ?_)
  simp only [Bool.false_eq_true,if_false]
  refine wpAny_bind (exc_attr X k I ?_)
  refine wpAny_bind (hisD.at ?_)
  simp only [Bool.not_true,Bool.false_eq_true,if_false]
  refine wpAny_bind (wpAny_rule ?_)
  refine hsub.at ?_
  first
    | exact wpAny_pure h
    | exact wpAny_pure (wpAny_pure h)
    | exact wpAny_bind (wpAny_pure (wpAny_pure h))
theorem excn_call {s:Shared} {Q:Value→Shared→Prop} (X:K.In s.heap) (k:ExcK K D) (I:ObAt s.heap x ox D) (e:kin_not K D C=true) (h:Q (.bool false) { s with toks:=s.toks+1 }) :
    wpAny (model prog w) A (call (.builtin "isinstance") [.ref x,.ref C]) Q E s:=by
  unfold kin_not at e
  rw [Bool.and_eq_true,Bool.and_eq_true,Bool.and_eq_true] at e
  obtain ⟨⟨⟨e0,e1⟩,e2⟩,e3⟩:=e
  refine call_isinstance (S:=fun _ R s=>(K.In s.heap∧ObAt s.heap x ox D)∧R (.ok (.ret (.bool false))) { s with toks:=s.toks+1 })
    (fun _ _ _ _ _ hs=>isinstance_outer (excn_nested hs.1.1 k hs.1.2 (looks_typeIn hs.1.1 (beq_iff_eq.mp e2)) ?_ ?_ (looks_subIn hs.1.1 (beq_iff_eq.mp e3)) hs.2) (by intro q; cases q)) ⟨⟨X,I⟩,h⟩
  · have X':=hs.1.1
    unfold clsIn at e1
    split at e1
    · rename_i ho
      intro A' Q' E' s' kk q
      unfold isType loadHead
      exact wpAny_bind (wpAny_loadPart (kk _ _ (X' _ _ ho)) (wpAny_pure q))
    · cases e1
  · exact Bool.eq_false_iff.mpr fun q=>of_decide_eq_true e0 (Value.ref.inj (beq_iff_eq.mp q))
theorem exct_nested {s:Shared} {T:String} {dep:Int} {tk:Tok} {Q:Fin→Shared→Prop} (X:K.In s.heap) (I:ObAt s.heap x ox D) (hty:typeOf (.type T)=pure (.type "type")) (hs:subIn K (.ref D) (.type T)=some true)
    (h:Q (.done (.ret (.bool true))) s):wpAny (model prog w) A (Builtin.«isinstance.nested» ⟨[.ref x,.type T,.int dep tk],[]⟩) Q E s:=by
  obtain ⟨h0,g,d,tt,os⟩:=s
  have L0:=I.type (M:=model prog w)
  have hsub:Looks (model prog w) h0 (isSubtype (.ref D) (.type T)) true:=looks_subIn X hs
  have LI:Looks (model prog w) h0 (isInstance (.ref x) (.type T)) true:=L0.andThen hsub
  have hty':Looks (model prog w) h0 (typeOf (.type T)) (.type "type"):=Looks.of_pure hty
  have his:Looks (model prog w) h0 (isType (.type T)) true:=Looks.of_pure rfl
  unfold Builtin.«isinstance.nested»
  refine wpAny_bind (L0.at ?_)
  rw [if_neg (fun q=>by cases beq_iff_eq.mp q)]
  refine wpAny_bind (hty'.at ?_)
  rw [if_pos (by decide)]
  k_delta "plainIsInstance"
  refine wpAny_bind (wpAny_bind (his.at ?_))
  simp only [Bool.not_true,Bool.false_eq_true,if_false]
  refine wpAny_bind (LI.at ?_)
  simp only [if_true]
  first
    | exact wpAny_pure h
    | exact wpAny_pure (wpAny_pure h)
    | exact wpAny_bind (wpAny_pure (wpAny_pure h))
theorem exct_call {s:Shared} {T:String} {Q:Value→Shared→Prop} (X:K.In s.heap) (I:ObAt s.heap x ox D) (hty:typeOf (.type T)=pure (.type "type")) (e:subIn K (.ref D) (.type T)=some true) (h:Q (.bool true) s) :
    wpAny (model prog w) A (call (.builtin "isinstance") [.ref x,.type T]) Q E s :=
  call_isinstance (S:=fun _ R s=>(K.In s.heap∧ObAt s.heap x ox D)∧R (.ok (.ret (.bool true))) s)
    (fun _ _ _ _ _ hs=>isinstance_outer (exct_nested hs.1.1 hs.1.2 hty e hs.2) (by intro q; cases q)) ⟨⟨X,I⟩,h⟩
end
theorem kin_not_of {K:Frag} {D C:Addr} (hn:D≠C) (hc:isClsIn K C=true) (ht:typeIn K (.ref C)=some (.type "type")) (hs:subIn K (.ref D) (.ref C)=some false):kin_not K D C=true:=by
  unfold kin_not
  unfold isClsIn at hc
  rw [decide_eq_true hn,hc,ht,hs]
  rfl
def IsX (K:Frag) (D:Addr) (c:V) (b:Bool):Prop:=(∃ C,c=.ref C∧((b=true∧isIn K (.ref D) C=true)∨(b=false∧ExcK K D∧kin_not K D C=true)))∨(∃ T,c=.ty T∧b=true∧typeOf (.type T)=pure (.type "type")∧subIn K (.ref D) (.type T)=some true)
def rIsX (K:Frag):List V→Hp→VK→Prop:=fun xs H Q=>∃ e T D c b,xs=[.ref e,c]∧H e=some (ExcO (.ref D) T e)∧IsX K D c b∧Q (.bl b) H
theorem call_isinstX {X:Cx}:CallR X (.builtin "isinstance") (rIsX X.K):=by
  intro pins s σ H xs us Q I r h
  obtain ⟨e,T,D,c,b,rfl,he,k,q⟩:=h
  obtain ⟨u,v,rfl,ru,rv⟩:=vals2 r
  cases ru
  obtain ⟨oe,vs,a0,h1,h2,_⟩:ExcAt (.ref D) T e s.heap:=(I.hok e _ he).1
  have O:ObAt s.heap e oe D:=⟨h1,h2⟩
  rcases k with ⟨C,rfl,⟨rfl,k⟩ | ⟨rfl,k1,k2⟩⟩ | ⟨Ty,rfl,rfl,k1,k2⟩
  · cases rv
    exact isi_call I.kIn (fun M=>O.type) k (fun z=>nomatch z) ⟨.bl true,H,I,rfl,q⟩
  · cases rv
    exact excn_call I.kIn k1 O k2 ⟨.bl false,H,I.tok _,rfl,q⟩
  · cases rv
    exact exct_call I.kIn O k1 k2 ⟨.bl true,H,I,rfl,q⟩
end L2
namespace L2
open PySem PySem.Spec PyProof.Rows
def outX (E:XK):XK:=fun cls o H'=>∀ e,o=some e→∀ T',H' T'=none→E cls o (xH H' T' e cls)
theorem passesO {P:Program} {w:World} {K:PySem.W.Frag} {mg:Str→Option Value} {base:Heap} {N:List Str} {qual:Str} {scope:Scope} {f:Addr} {cd:Value} {A:Around} {outer:List Env} {s0:Shared} {H0:Hp} {E:XK} :
    PassesS (CX1 P w) (cxOf (CX1 P w) P w K mg base N qual scope f cd A outer s0 H0 E) fun _=>outX E:=(passes1 (outX E) fun cls e T H' _ h T' n=>h e rfl T' n).s
def Thrown (C:Addr) (H:Hp) (E:XK):Prop:=∀ (e T:Addr) (H':Hp),Same H H'→H e=none→H' e=some (ExcO (.ref C) T e)→E (.ref C) (some e) H'
theorem same_xH {H H1:Hp} {T e:Addr} {cls:Value} (s:Same H H1) (he:H e=none) (hT:H1 T=none):Same H (xH H1 T e cls):=fun b o h=>by
  have hbe:b≠e:=fun z=>by subst z; rw [he] at h; cases h
  have hbT:b≠T:=fun z=>by subst z; rw [s _ _ h] at hT; cases hT
  show upd (upd H1 T (TrO T)) e (ExcO cls T e) b=some o
  rw [upd_ne hbe,upd_ne hbT]; exact s b o h
section
variable {C:Addr} {H H1:Hp} {E:XK}
theorem Thrown.up (h:Thrown C H E) (s:Same H H1):Thrown C H1 E:=fun e T H' s' he hx=>h e T H' (s.trans s') (s.free he) hx
theorem Thrown.made (h:Thrown C H E) {e T:Addr} (he:H e=none) (hT:H T=none):E (.ref C) (some e) (xH H T e (.ref C)):=h e T _ (same_xH (Same.refl H) he hT) he upd_same
theorem Thrown.out (h:Thrown C H E):Thrown C H (outX E):=fun e T H' s he hx e' z T' n=>by
  cases z
  exact h e T' _ (same_xH s he n) he upd_same
theorem thrown_try {R:XR} {σ:St} (h:∀ (e T:Addr) (H':Hp),Same H H'→H e=none→H' e=some (ExcO (.ref C) T e)→R (.ref C) e σ H'):Thrown C H (fun cls o H'=>∀ e,o=some e→R cls e σ H'):=fun e T H' s he hx e' z=>by
  cases z
  exact h e T H' s he hx
end
structure Fn1 (P:Program) (w:World) (K:PySem.W.Frag) (mg:Str→Option Value) (base:Heap) (f:Addr) (k:Nat) (ps:List Str) (sp:Sp):Prop where
  ex:∃ (fd:FuncData),FnOk P w K mg base (CX1 P w) k f fd ps sp∧Binds K fd ps []∧PySem.W.keepIn K (.ref f)=true
theorem Cal1.fn {P:Program} {w:World} {K:PySem.W.Frag} {mg:Str→Option Value} {base:Heap} {x:Str} {k:Nat} {ps:List Str} {sp:Sp} (C:Cal1 P w K mg base x k ps sp):∃ f,mg x=some (.ref f)∧Fn1 P w K mg base f k ps sp:=by
  obtain ⟨f,fd,F,b,kp,m⟩:=C.ex
  exact ⟨f,m,fd,F,b,kp⟩
def tCallV (P:Program) (w:World) (K:PySem.W.Frag) (mg:Str→Option Value) (base:Heap) (n i:Nat) (E:St→XK) (t:TA):TE:=fun σ H Q=>∃ (f:Addr) (k:Nat) (ps:List Str) (sp:Sp),σ[i]?=some (some (.ref f))∧Fn1 P w K mg base f k ps sp∧k≤n∧t σ H fun vs H1=>sp vs H1 Q (E σ)
theorem pe_calV {X:Cx} {x:Str} {n i:Nat} {E:St→XK} {e:Expr} {es:List Expr} {t:TA} {p pos:Pos} (hr:Room n X.A) (hv:PE X (.Name x p) (tVar i)) (hx:PassesS (CX1 X.prog X.w) X E) (ha:PA X (e :: es) t)
    (he:starEach (e :: es) X.env=(false,eval e X.env) :: starEach es X.env:=by rfl) (hpl:(backTo pos (starEach es X.env)).any (·.1)=false:=by rfl) :
    PE X (.Call (.Name x p) (e :: es) [] pos) (tCallV X.prog X.w X.K X.mg X.base n i E t):=by
  intro pins s σ H Q I h
  obtain ⟨f,k,ps,sp,hσ,⟨fd,F,b,kp⟩,hk,h⟩:=h
  refine wpAny_Call_Name_kw (thn (hv pins s σ H (fun v H'=>v=.ref f∧H'=H) I ⟨_,hσ,rfl,rfl⟩) fun u s0 ⟨v,H0,I0,r0,e1,e2⟩=>?_)
  subst e1 e2
  cases r0
  refine PySem.W.callWith_K (h₀:=X.base) I0.ok.mod.kin kp (thn (ha pos pins s0 σ H0 _ I0 h) fun us s1 ⟨vs,H1,I1,r,q⟩=>⟨I1.kIn,?_⟩) he hpl
  have hl:us.length=ps.length:=by rw [← r.length]; exact F.len _ _ _ _ q
  refine wpAny_call (codeAny_mono ((F.mono hk).run X.A X.stack s1 H1 ⟨us,[]⟩ us vs Q (E σ) hr I1.env0 (by have:=b s1 us I1.kIn (by rw [List.append_nil]; exact hl); rw [List.append_nil] at this; exact this) r q) fun r s' hq=>?_)
  cases r with
  | error e=>exact hx pins σ H1 s1 e s' I1 hq
  | ok fl =>
    cases fl with
    | ret u=>exact I1.after hq
    | next=>exact False.elim hq
    | brk=>exact False.elim hq
    | cont=>exact False.elim hq
abbrev eTry (R:XR):St→XK:=fun σ cls o H'=>∀ e,o=some e→R cls e σ H'
theorem pe_cal1T {X:Cx} {pins:List (Addr × Obj)} {R:XR} {x:Str} {k n:Nat} {ps:List Str} {sp:Sp} {e:Expr} {es:List Expr} {t:TA} {p pos:Pos} (C:Cal1 X.prog X.w X.K X.mg X.base x k ps sp) (hr:Room n X.A) (hk:k≤n) (hg:Gl X x) (ha:PA (tryCx X pins R) (e :: es) t)
    (hdb:(x == ("__debug__" : Str))=false:=by decide) (he:starEach (e :: es) X.env=(false,eval e X.env) :: starEach es X.env:=by rfl) (hpl:(backTo pos (starEach es X.env)).any (·.1)=false:=by rfl) :
    PE (tryCx X pins R) (.Call (.Name x p) (e :: es) [] pos) (tCallS sp (eTry R) t):=pe_cal1 (X:=tryCx X pins R) C hr hk hg passesT ha hdb he hpl
theorem passesN {X:Cx}:PassesS (CX1 X.prog X.w) X fun _ _ _ _=>False:=fun _ _ _ _ _ _ _ h=>by
  obtain ⟨_,_,_,_,_,_,_,_,_,_,_,_,q⟩:=h
  exact q.elim
end L2
namespace L2
open PySem PySem.Spec PyProof.Rows
def CodO (c:Addr) (q:Str):HO:=.ext fun h=>h.CodeRec (.ref c) q
def del (H:Hp) (c:Addr):Hp:=fun b=>if b=c then none else H b
section
variable {P:Program} {w:World} {H H':Hp} {h h':Heap} {c:Addr} {o:Obj} {fs:List Addr}
variable {outer:List Env} {s s':Shared} {Q:VK} {u:Value} {E:XK} {e:Value}
end
section
variable {P:Program} {w:World} {K:PySem.W.Frag} {mg:Str→Option Value} {base:Heap} {N:List Str} {qual:Str} {scope:Scope} {f:Addr} {cd:Value} {cl:List (Str × Addr)} {A:Around} {outer:List Env} {s0:Shared} {H0:Hp} {E:XK}
end
structure TabCx (mg:Str→Option Value) (base:Heap) (c P:Addr):Prop where
  hd:PySem.W.CodeHd base c P
  gP:mainGlobals≠P
  blt:base.BuiltinsAt mg P
def TabI (P:Addr) (pos:Pos) (qual:Str) (H:Hp):Prop:=∃ ps,H P=some (.tbl ps)∧(ps = #[]∨∃ c',ps = #[rawInt pos.line,rawInt pos.col,.ref c']∧H c'=some (CodO c' qual))
end L2
namespace L2
open PySem PySem.Spec PyProof.Rows
theorem count_eqU {y:V}:∀ {xs:List V} {us:List Value},Vals xs us→xs.all flatV=true→us.countP (eqU y)=xs.countP fun z=>eqV z y
  | _,_,.nil,_=>rfl
  | x :: xs,u :: us,.cons r t,f=>by
    rw [List.all_cons,Bool.and_eq_true] at f
    rw [List.countP_cons,List.countP_cons,eqU_of r f.1,count_eqU t f.2]
theorem mt_countL {X:Cx}:MtR X "list.count" (fun x xs H Q=>∃ (l:Addr) (ys:List V) (y:V),x=.ref l∧xs=[y]∧H l=some (.lst ys)∧flatV y=true∧ys.all flatV=true∧Q (.int (ys.countP (fun z=>eqV z y):Nat)) H):=by
  intro pins s σ H x xs v us Q I rx rv h
  obtain ⟨l,ys,y,rfl,rfl,hH,fy,fs,q⟩:=h
  cases rx
  obtain ⟨u,rfl,ru⟩:=rv.one
  obtain ⟨z,its,n,r,hl,e⟩:=I.lstM hH
  refine call_meets F.slot_list_count ⟨_,e,rfl⟩ F.entry_list_count (F.args_list_count_2 _ _) (SeqAt.list_countAt l its.toArray n none #[] u (eqU y)) ⟨e,fun w hw=>mem_eqAt ru fy r fs w (by simpa using hw),?_⟩
  rw [show its.toArray.toList=its from rfl,count_eqU r fs]
  exact ⟨.int _,H,I.tok _,⟨_,rfl⟩,q⟩
theorem mt_indexL {X:Cx}:MtR X "list.index" (fun x xs H Q=>∃ (l:Addr) (ys:List V) (y w:V) (j:Nat),x=.ref l∧xs=[y]∧H l=some (.lst ys)∧flatV y=true∧ys.all flatV=true∧ys[j]?=some w∧eqV w y=true∧(∀ i z,i < j→ys[i]?=some z→eqV z y=false)∧Q (.int (j:Nat)) H):=by
  intro pins s σ H x xs v us Q I rx rv h
  obtain ⟨l,ys,y,w,j,rfl,rfl,hH,fy,fs,hj,hw,hno,q⟩:=h
  cases rx
  obtain ⟨u,rfl,ru⟩:=rv.one
  obtain ⟨z,its,n,r,hl,e⟩:=I.lstM hH
  have hjl:j < ys.length:=(List.getElem?_eq_some_iff.mp hj).1
  have at_:∀ (i:Nat) (hi:i < its.length) (z:V),ys[i]?=some z→eqU y its[i]=eqV z y:=fun i hi z hz=>by
    obtain ⟨u',h1,h2⟩:=r.get hz
    rw [List.getElem?_eq_getElem hi] at h1
    cases h1
    exact eqU_of h2 (List.all_eq_true.mp fs z (List.mem_of_getElem? hz))
  have hz:=line63
  refine call_meets F.slot_list_index ⟨_,e,rfl⟩ F.entry_list_index (F.args_list_index_2 _ _) (SeqAt.list_indexAt l its.toArray n none #[] u (eqU y) j (by rw [List.size_toArray]; omega) (by omega) ?_ ?_) ⟨e,fun w hw=>mem_eqAt ru fy r fs w (by simpa using hw),?_⟩
  · show eqU y its[j]=true
    rw [at_ j (by omega) w hj]; exact hw
  · intro m hm hlt
    show eqU y its[m]=false
    have hm':m < its.length:=by simpa using hm
    have hm2:m < ys.length:=by omega
    rw [at_ m hm' ys[m] (List.getElem?_eq_getElem hm2)]
    exact hno m _ hlt (List.getElem?_eq_getElem hm2)
  · exact ⟨.int _,H,I.tok _,⟨_,rfl⟩,q⟩
structure RoomQ (k:Nat) (A:Around):Prop where
  dp:A.depth+3 * k+5 < recursionLimit
  un:A.units+16 * k+200 < cLine
theorem Room.q {k:Nat} {A:Around} (r:Room k A) (e:Option Value):RoomQ k (A.mark e):=⟨r.dp,r.un⟩
structure CalQ (P:Program) (w:World) (K:PySem.W.Frag) (mg:Str→Option Value) (base:Heap) (x:Str) (k:Nat) (ps:List Str) (sp:Sp):Prop where
  ex:∃ (f:Addr) (fd:FuncData),((∀ vs H Q E,sp vs H Q E→vs.length=ps.length)∧∀ (A:Around) (outer:List Env) (s:Shared) (H:Hp) (args:Args) (us:List Value) (vs:List V) (Q:VK),RoomQ k A→Env0 P w K mg base A outer s H→BindsTo s fd args (ps.zip us)→Vals vs us→sp vs H Q E0 →
    codeAny (model P w) A (.call (.ref f) args) (CR CX0 outer P w H s Q E0) s)∧Binds K fd ps []∧PySem.W.keepIn K (.ref f)=true∧mg x=some (.ref f)
end L2
namespace L2
open PySem PySem.Spec PyProof.Rows
open AutoSeq1 (wpAny_loadPart')
section
variable {prog:Program} {w:World} {A:Around} {E:Value→Shared→Prop} {s:Shared}
end
section
variable {prog:Program} {w:World} {A:Around} {E:Value→Shared→Prop} {s:Shared}
end
section
variable {X:Cx}
end
end L2
namespace ZTL
open PySem
open ZT (Apart tup_item tup_end)
open Sem (wp)
section
variable {prog:Program} {w:World} {A:Around} {E:Value→Shared→Prop} {s:Shared}
end
end ZTL
namespace L2
open PySem PySem.Spec PyProof.Rows
end L2
namespace L2
open PySem PySem.Spec PyProof.Rows
end L2
namespace L2
open PySem PySem.Spec PyProof.Rows
theorem ints_ix {ns:List Int} {its:List Value} (r:Vals (ns.map V.int) its) {i:Nat} {v:Value} (h:its[i]?=some v):∃ t,v=.int (ns.getD i 0) t:=by
  have hi:i < ns.length:=by
    have:=(List.getElem?_eq_some_iff.mp h).1
    have:=r.length
    rw [List.length_map] at this
    omega
  obtain ⟨u,hu,ru⟩:=r.get (i:=i) (x:=.int (ns.getD i 0)) (by rw [List.getElem?_map,List.getElem?_eq_getElem hi,List.getD_eq_getElem?_getD,List.getElem?_eq_getElem hi]; rfl)
  rw [hu] at h
  cases h
  exact ru
end L2
namespace SO
open PySem PySem.W PyProof.Rows
section
variable {O:KeyOrd} {prog:Program} {w:World} {A:Around} {E:Value→Shared→Prop} {s:Shared}
theorem sorted_ofGS {v:Value} {Q:Value→Shared→Prop} (G:List Value→Heap→Nat→Prop)
    (hcol:∀ (Q:List Value→Shared→Prop),(∀ vs g tk,G vs g tk→Q vs { s with heap:=g,toks:=tk })→wpAny (model prog w) A.in1 (collect v) Q E s)
    (hrest:∀ vs g tk,G vs g tk→∃ (key:Nat→O.α) (κ:SortKind),vs.length < 64∧
      (2≤vs.length→∀ h',Keeps g h'→∀ (E:Value→Shared→Prop) (Q:SortKind→Shared→Prop),Q κ { s with heap:=h',toks:=tk }→wpAny (model prog w) A.in1.in1 (keyKind' vs.toArray) Q E { s with heap:=h',toks:=tk }) ∧
      (∀ h',Keeps g h'→Cmp key vs.length (kas_ask prog w A.in1.in1 κ vs) { s with heap:=h',toks:=tk }) ∧
      (∀ (g':Heap) (p:Array Nat),Keeps g g'→InN vs.length p→SortedN key p vs.length→(∃ n,g'.get? g.objs.size=some (seqObj "list" (List.toArray (p.toList.map fun i=>vs.getD i Value.none)) n))→Q (.ref g.objs.size) { s with heap:=g',toks:=tk })) :
    wpAny (model prog w) A (call (.builtin "sorted") [v]) Q E s:=by
  refine Calls.call_function_entry kind_sorted plain_sorted entry_sorted (args_sorted1 _) ?_
  unfold Builtin.«sorted»
  refine wpAny_bind (m:=checkCount "sorted" 1 1 _) (wpAny_pure ?_)
  refine wpAny_bind (hcol _ fun vs g tk hG=>?_)
  obtain ⟨key,κ,h64,hk,hc,h⟩:=hrest vs g tk hG
  refine wpAny_bind (wpAny_newList ?_ (by rw [sizeLine_eq]; omega))
  have hoL:(g.push (seqObj "list" vs.toArray 0)).get? g.objs.size=some (seqObj "list" vs.toArray 0):=Heap.get?_push_size _ rfl
  have kp:∀ h',(∀ b o,b≠g.objs.size→(g.push (seqObj "list" vs.toArray 0)).get? b=some o→h'.get? b=some o)→Keeps g h':=fun h' k b o q=>by
    exact k b o (Nat.ne_of_lt (Heap.lt_size q)) (Heap.get?_push_of_some _ q)
  show wpAny _ _ _ _ _ { s with heap:=g.push (seqObj "list" vs.toArray 0),toks:=tk }
  refine wpAny_bind (wpAny_holding (wpAny_call_entry slot_list_sort ⟨_,hoL,rfl⟩ entry_list_sort (list_sort (s:={ s with heap:=g.push (seqObj "list" vs.toArray 0),toks:=tk }) key κ hoL h64 (fun z h' k Q q=>hk z h' (kp h' k) _ Q q) (fun h' k=>hc h' (kp h' k)) fun p a1 a2=>⟨_,rfl,?_⟩) (args_list_sort _)))
  refine wpAny_pure ⟨_,rfl,h _ p (kp _ fun b o hb q=>?_) a1 a2 ?_⟩
  · unfold sortedHeap
    have hlt:b < (g.push (seqObj "list" vs.toArray 0)).objs.size:=Heap.lt_size q
    rw [Heap.get?_update_ne _ _ _ _ hb,Heap.get?_push_ne _ _ _ (by rw [size_push',Heap.size_update]; exact Nat.ne_of_lt (Nat.lt_succ_of_lt hlt)),Heap.get?_push_ne _ _ _ (by rw [Heap.size_update]; exact Nat.ne_of_lt hlt),Heap.get?_update_ne _ _ _ _ hb]
    exact q
  · unfold sortedHeap
    have ha:g.objs.size < (g.push (seqObj "list" vs.toArray 0)).objs.size:=Heap.lt_size hoL
    obtain ⟨e1,ho1⟩:∃ e1,((g.push (seqObj "list" vs.toArray 0)).update g.objs.size (Obj.mapSeq fun _=>#[])).get? g.objs.size=some (seqObj "list" #[] e1):=⟨_,get?_update_seq hoL (fun _=>#[])⟩
    have ho6:((((g.push (seqObj "list" vs.toArray 0)).update g.objs.size (Obj.mapSeq fun _=>#[])).push (seqObj "tuple" vs.toArray 0)).push (seqObj "list" #[] 0)).get? g.objs.size=some (seqObj "list" #[] e1):=by
      rw [Heap.get?_push_ne _ _ _ (by rw [size_push',Heap.size_update]; exact Nat.ne_of_lt (Nat.lt_succ_of_lt ha)),Heap.get?_push_ne _ _ _ (by rw [Heap.size_update]; exact Nat.ne_of_lt ha)]
      exact ho1
    exact ⟨_,get?_update_seq ho6 _⟩
end
end SO
namespace L2
open PySem PySem.Spec PyProof.Rows
def intΦ (w:World) (a:Addr) (ns:List Int):Heap→Prop:=fun h=>ST.ISet w h a ns
theorem lstI_mem {ns:List Int}:∀ i,i≤ns.length→(SX.lstI (fun i=>ns.getD i 0) i).Nodup∧∀ k,k∈SX.lstI (fun i=>ns.getD i 0) i↔k∈ns.take i
  | 0,_=>⟨List.nodup_nil,fun k=>by rw [List.take_zero]; exact Iff.rfl⟩
  | i+1,hi=>by
    obtain ⟨h1,h2⟩:=lstI_mem (ns:=ns) i (by omega)
    have e:ns.take (i+1)=ns.take i++[ns.getD i 0]:=by
      rw [List.take_succ_eq_append_getElem (by omega),List.getD_eq_getElem?_getD,List.getElem?_eq_getElem (by omega)]
      rfl
    show (ST.addI (SX.lstI (fun i=>ns.getD i 0) i) (ns.getD i 0)).Nodup∧_
    rw [e]
    unfold ST.addI
    refine ⟨?_,fun k=>?_⟩
    · split
      · exact h1
      · rename_i z
        exact List.nodup_cons.mpr ⟨z,h1⟩
    · show k∈ST.addI (SX.lstI (fun i=>ns.getD i 0) i) (ns.getD i 0)↔_
      unfold ST.addI
      rw [List.mem_append,List.mem_singleton,← h2 k]
      split
      · rename_i z
        exact ⟨.inl,fun h=>h.elim id fun e=>by rw [e]; exact z⟩
      · rw [List.mem_cons]
        exact ⟨fun h=>h.symm,fun h=>h.symm⟩
def rSetN (K:PySem.W.Frag) (w:World):List V→Hp→VK→Prop:=fun xs H Q=>∃ (p:Addr) (ns:List Int),xs=[.ref p]∧SqL K H p (ns.map V.int)∧ns.length≤1001∧∀ (a:Addr) (ms:List Int),H a=none→ms.Nodup→(∀ k,k∈ms↔k∈ns)→ms.length≤ns.length→Q (.ref a) (upd H a (.ext (intΦ w a ms)))
theorem call_setN {X:Cx} (hc:X.calm=true):CallR X (.type "set") (rSetN X.K X.w):=by
  intro pins s σ H xs us Q I r h
  obtain ⟨p,ns,rfl,hp,hz,q⟩:=h
  obtain ⟨u,rfl,rx⟩:=vals1 r
  cases rx
  obtain ⟨its,rv,pl,hzz⟩:=I.list hp
  have hil:=rv.length
  rw [List.length_map] at hil
  have hsz:its.toArray.size=ns.length:=by simp; omega
  refine SX.call_set_ints (val:=fun i=>ns.getD i 0) (I.ok.hd hc) pl.isList (fun i v hv=>ints_ix rv (by simpa using hv)) (by rw [hsz]; omega) fun g tk hS kp=>?_
  rw [hsz] at hS
  obtain ⟨h1,h2⟩:=lstI_mem (ns:=ns) ns.length (Nat.le_refl _)
  have h3:=SX.lstI_len (val:=fun i=>ns.getD i 0) (i:=ns.length)
  generalize SX.lstI (fun i=>ns.getD i 0) ns.length=ms at hS h1 h2 h3
  rw [List.take_length] at h2
  refine ⟨.ref s.heap.objs.size,_,I.laid (t':=tk) (o:=.ext (intΦ X.w s.heap.objs.size ms)) (fun b o e=>kp b o (Heap.lt_size e) e) (Nat.le_refl _) ?_,rfl,q _ ms I.fresh h1 h2 (by omega)⟩
  refine ⟨hS,?_,fun h1 h2 hh k=>SX.intKeep hh k⟩
  obtain ⟨o,_,_,_,_,eo,_⟩:=hS.ex
  exact ⟨o,eo⟩
theorem collectI {prog:Program} {w:World} {A:Around} {E:Value→Shared→Prop} {s:Shared} {S:Addr} {Q:List Value→Shared→Prop} {ns:List Int} (hh:A.handled=none) (hS:ST.ISet w s.heap S ns)
    (h:∀ (g:Heap) (tk:Nat) (kts:List (Int × Tok)),(kts.map (·.1)).Perm ns→(∀ b u,s.heap.get? b=some u→g.get? b=some u)→Q (kts.map fun p=>.int p.1 p.2) { s with heap:=g,toks:=tk }):wpAny (model prog w) A (collect (.ref S)) Q E s:=by
  obtain ⟨o,es,ep,t,kts,ho,hex,hd,hT,hrm,hpl,hld,hmk,hp,hE⟩:=hS.ex
  have hf:t.fits es.size=true:=by
    unfold SetTable.fits SetTable.fill
    rw [hT.d,hT.sz]
    have:=hT.room
    simp
    exact this
  refine SI.collect_set hh ho hex.1 hd hf hT.sz hT.up hpl (fun z=>hld.resolve_left fun y=>absurd (y.symm.trans z) (by decide)) (by have:=hT.room; rw [sizeLine_eq]; omega) fun g tk hk=>?_
  have hpe:(SI.ord w S es ep).toList.Perm (kts.map ST.entI):=by
    rw [← hE]
    exact SI.ord_perm
  obtain ⟨ks2,k1,k2⟩:=ST.perm_ex hpe.symm rfl
  have:=h g tk ks2 ((k1.map (·.1)).trans hp) hk
  rw [k2,List.map_map]
  exact this
theorem hom_ints (ns:List Int):Hom (ns.map D.int):=by
  refine ⟨fun d hd e he=>?_,.inl fun d hd=>?_⟩
  · obtain ⟨a,_,rfl⟩:=List.mem_map.mp hd
    obtain ⟨b,_,rfl⟩:=List.mem_map.mp he
    exact trivial
  · obtain ⟨a,_,rfl⟩:=List.mem_map.mp hd
    exact ⟨_,rfl⟩
theorem valsKT:∀ kts:List (Int × Tok),Vals ((kts.map (·.1)).map V.int) (kts.map fun p=>Value.int p.1 p.2)
  | []=>.nil
  | p :: r=>.cons ⟨_,rfl⟩ (valsKT r)
def rSortSN (w:World):List V→Hp→VK→Prop:=fun xs H Q=>∃ (p:Addr) (ms:List Int),xs=[.ref p]∧H p=some (.ext (intΦ w p ms))∧ms.length < 64 ∧
  ∀ (l:Addr) (ns:List Int),H l=none→ns.Perm ms→ns.Pairwise (· ≤ ·)→Q (.ref l) (upd H l (.lst (ns.map V.int)))
theorem call_sortedSN {X:Cx} (hc:X.calm=true) (hu:X.A.units+64 < cLine):CallR X (.builtin "sorted") (rSortSN X.w):=by
  intro pins s σ H xs us Q I r h
  obtain ⟨p,ms,rfl,hp,hz,q⟩:=h
  obtain ⟨u,rfl,rx⟩:=vals1 r
  cases rx
  have hS:ST.ISet X.w s.heap p ms:=(I.hok _ _ hp).1
  refine SO.sorted_ofGS (O:=ordD) (fun its g tk=>∃ kts:List (Int × Tok),(kts.map (·.1)).Perm ms∧its=kts.map (fun p=>Value.int p.1 p.2)∧∀ b o,s.heap.get? b=some o→g.get? b=some o)
    (fun Q' q'=>collectI (by first | exact I.ok.hd hc | simp [I.ok.hd hc]) hS fun g tk kts hpm kp=>q' _ _ _ ⟨kts,hpm,rfl,kp⟩) ?_
  rintro its g tk ⟨kts,hpm,rfl,kp⟩
  have I5:Inv X pins σ H { s with heap:=g,toks:=tk }:=I.kept (t':=tk) kp
  have hn:kts.length=ms.length:=by
    have:=hpm.length_eq
    rw [List.length_map] at this
    exact this
  have hD':DenL H ((kts.map (·.1)).map V.int) ((kts.map (·.1)).map D.int):=by
    generalize kts.map (·.1)=l
    induction l with
    | nil=>exact trivial
    | cons a l ih=>exact ⟨rfl,ih⟩
  have rv:=valsKT kts
  have hpd:((kts.map (·.1)).map D.int).Perm (ms.map D.int):=hpm.map _
  obtain ⟨κ,hk2,hcm⟩:=sobl hu I5 hD' rv (hom_ints _) (by rw [List.length_map,List.length_map]; omega) (fun d hd=>by
    obtain ⟨a,_,rfl⟩:=List.mem_map.mp hd
    exact ⟨(fun z=>nomatch z),fun _ z=>nomatch z⟩)
  have hle:(kts.map fun p=>Value.int p.1 p.2).length=kts.length:=List.length_map _
  have hle2:((kts.map (·.1)).map V.int).length=kts.length:=by rw [List.length_map,List.length_map]
  have hle3:((kts.map (·.1)).map D.int).length=kts.length:=by rw [List.length_map,List.length_map]
  generalize ((kts.map (·.1)).map D.int)=ds at hD' hpd hcm hle3
  generalize (kts.map fun p=>Value.int p.1 p.2)=its at rv hk2 hcm hle ⊢
  generalize ((kts.map (·.1)).map V.int)=vs at hD' rv hle2
  refine ⟨fun i=>ds.getD i .non,κ,by rw [hle]; omega,fun h2 h' kp' E Q q=>hk2 h2 h' kp' E Q q,fun h' kp'=>hcm h' kp',fun g' pp kp' hpp hs hob'=>?_⟩
  obtain ⟨m,hob'⟩:=hob'
  have hlt:∀ i∈pp.toList,i < kts.length:=fun i hi=>by rw [← hle]; exact List.mem_range.mp (hpp.mem_iff.mp hi)
  have hps:pp.toList.length=kts.length:=by rw [← hle]; simpa using hpp.length_eq
  have hU:=vals_map rv pp.toList fun i hi=>by rw [hle2]; exact hlt i hi
  have hDD:=denL_map hD' pp.toList fun i hi=>by rw [hle3]; exact hlt i hi
  have hPP:(pp.toList.map fun i=>ds.getD i D.non).Perm (ms.map D.int):=by
    refine List.Perm.trans ?_ hpd
    have e:(List.range its.length).map (fun i=>ds.getD i .non)=ds:=by
      apply List.ext_getElem
      · rw [List.length_map,List.length_range,hle,hle3]
      · intro i h1 h2
        simp [List.getD_eq_getElem?_getD,h2]
    have:=hpp.map fun i=>ds.getD i D.non
    rw [e] at this
    exact this
  have hUp:UpD (pp.toList.map fun i=>ds.getD i D.non):=by
    unfold UpD
    rw [List.pairwise_iff_getElem]
    intro i j hi hj hij
    have h:=hs i j (Nat.le_of_lt hij) (by rw [hle,← hps]; simpa using hj)
    have e:∀ k (hk:k < pp.toList.length),SO.KN (O:=ordD) (fun i=>ds.getD i .non) pp k=(pp.toList.map fun i=>ds.getD i D.non)[k]'(by rw [List.length_map]; exact hk):=by
      intro k hk
      have hk':k < pp.size:=by simpa using hk
      unfold SO.KN
      rw [List.getElem_map]
      congr 1
      simp [Array.getD,hk']
    rw [e i (by simpa using hi),e j (by simpa using hj)] at h
    exact h
  obtain ⟨ns,hn1,hn2⟩:=ST.perm_ex hPP.symm rfl
  rw [hn2] at hDD hUp
  have hus:=den_ints hDD
  have hup:ns.Pairwise (· ≤ ·):=by
    unfold UpD at hUp
    rw [List.pairwise_map] at hUp
    refine hUp.imp fun {a b} h=>?_
    rw [dlt_int] at h
    exact Int.not_lt.mp (of_decide_eq_false h)
  rw [hus] at hU
  refine ⟨.ref _,_,I5.laid (t':=tk) (o:=.lst (ns.map V.int)) kp' (Nat.le_refl _) ⟨?_,_,m,hU,hob'⟩,rfl,q _ ns (I5.hok.fresh (Nat.le_refl _)) hn1 hup⟩
  rw [List.length_map,hn1.length_eq,sizeLine_eq]
  omega
theorem up_uniq:∀ {a b:List Int},a.Pairwise (· < ·)→b.Pairwise (· ≤ ·)→b.Nodup→(∀ k,k∈b↔k∈a)→b=a:=by
  intro a b ha hb hn hm
  have hb':b.Pairwise (· < ·):=by
    have:=List.Pairwise.and hb (List.nodup_iff_pairwise_ne.mp hn)
    exact this.imp fun {x y} h=>by omega
  exact (List.perm_ext_iff_of_nodup hn (ha.imp fun {x y} h=>by omega)).mpr hm |>.eq_of_pairwise (le:=(· < ·)) (fun x y _ _ h1 h2=>by omega) hb' ha
end L2
namespace L2
open PySem PySem.Spec PyProof.Rows
section
variable {prog:Program} {w:World} {A:Around} {E:Value→Shared→Prop} {s:Shared}
theorem draw_lst {g l:Addr} {its:Array Value} (hne:l≠g):∀ (n i:Nat) (s:Shared) (Q:List Value→Shared→Prop),s.heap.IsListIter g l i→s.heap.IsList l its→i+n≤its.size →
    (∀ h',h'.IsListIter g l (i+n)→Heap.SameBut g s.heap h'→Q ((its.toList.drop i).take n) { s with heap:=h' })→wpAny (model prog w) A (draw (.ref g) n) Q E s
  | 0,i,s,Q,hg,_,_,q=>wpAny_pure (by
      have:=q s.heap hg (Heap.SameBut.refl ..)
      rwa [List.take_zero] at this)
  | n+1,i,s,Q,hg,hl,hle,q=>by
    have lt:i < its.size:=Nat.lt_of_lt_of_le (by omega) hle
    refine wpAny_bind (wpAny_pyNext_list_item hg hl (x:=its[i]) (Array.getElem?_eq_getElem lt) fun ha ga sa=>?_)
    refine wpAny_bind (wpAny_holding (draw_lst hne n (i+1) _ _ ga (hl.extBut sa.extBut hne) (by omega) fun hb gb sb=>wpAny_pure ?_))
    have z:=q hb (by rw [Nat.add_comm n 1,← Nat.add_assoc]; exact gb) (sa.trans sb)
    have e:its.toList.drop i=its[i] :: its.toList.drop (i+1):=List.drop_eq_getElem_cons (by simpa using lt)
    rwa [e,List.take_succ_cons] at z
theorem unpack_lst {l:Addr} {its:Array Value} {tgs:List (Bool × (Value→Sem Unit))} {Q:Unit→Shared→Prop} (hh:A.handled=none) (hl:s.heap.IsList l its) (hn:tgs.length=its.size) (hst:tgs.findIdx? (·.1)=none)
    (h:∀ h',Heap.ExtBut s.heap.objs.size s.heap h'→wpAny (model prog w) A (assignInOrder (tgs.map (·.2)) its.toList) Q E { s with heap:=h' }):wpAny (model prog w) A (unpack (.ref l) tgs) Q E s:=by
  have ne:l≠s.heap.objs.size:=by
    obtain ⟨o,ho,_⟩:=hl
    exact Nat.ne_of_lt (Heap.lt_size ho)
  unfold unpack
  rw [hn,hst]
  refine wpAny_bind (wpAny_holding ?_)
  unfold unpackItems notIterableAtAll
  refine wpAny_bind (wpAny_bind (wpAny_specialOf hl.typeIs slot_list_iter.lookup (wpAny_pure ?_)))
  rw [if_neg (by simp)]
  refine wpAny_bind (wpAny_holding (wpAny_pyIter_list hl ?_))
  refine wpAny_bind (wpAny_holding (draw_lst ne its.size 0 _ _ ⟨_,Heap.get?_push_size _ rfl,rfl,rfl⟩ (hl.push _) (by omega) fun ha ga sa=>?_))
  have e:(its.toList.drop 0).take its.size=its.toList:=List.take_of_length_le (Nat.le_of_eq (by rw [List.length_drop,Nat.sub_zero,Array.length_toList]))
  rw [e,if_neg (by simp)]
  refine wpAny_bind (wpAny_holding (wpAny_pyNext_list_end hh ga ((hl.push _).extBut sa.extBut ne) (by simp) fun hb sb=>?_))
  rw [if_neg (by simp)]
  exact wpAny_pure (h hb fun b o z e=>sb b o z (sa.extBut b o z (Heap.get?_push_of_some _ e)))
end
def gLst (K:PySem.W.Frag) (n:Nat) (t:TGs):TG:=fun v σ H Q=>∃ a xs,v=.ref a∧SqL K H a xs∧xs.length=n∧t xs σ H Q
theorem pg_lst {X:Cx} {pos:Pos} {es:List Expr} {k:Nat} {t:TGs} {n:Nat} (hc:X.calm=true) (h:PGs X es t)
    (hn:(assignEach es X.env).length=n:=by rfl) (hst:(assignEach es X.env).findIdx? (·.1)=none:=by rfl):PG X (.Tuple es k pos) (gLst X.K n t):=by
  intro pins s σ H v u Q I r hw
  obtain ⟨a,xs,e1,hq,hl,hw⟩:=hw
  subst e1
  cases r
  obtain ⟨its,rv,ht,hz⟩:=I.list hq
  rw [assign_Tuple]
  refine wpAny_bind (wpAny_standAt (unpack_lst (I.ok.hd hc) ht.isList (by simp [hn,← hl,rv.length]) hst fun h' hx=>?_))
  exact h pins _ σ H xs _ Q (I.kept (t':=s.toks) fun b o e=>hx b o (Nat.ne_of_lt (Heap.lt_size e)) e) (by simpa using rv) hw
def AllSay (n:Nat) (H:Hp):List V→List V→Prop
  | [],[]=>True
  | x :: xs,y :: ys=>((x=.non∧y=.non)∨∃ d,Shal n d∧Den H x d∧Den H y d)∧AllSay n H xs ys
  | _,_=>False
end L2
namespace L2
open PySem PySem.Spec PyProof.Rows
def TabD (F:List (Str × List Str)):List (Str × KTD.Dat):=F.map fun p=>(p.1,.tup (p.2.map PyData.str))
def KTbl (K:PySem.W.Frag) (t:Addr) (F:List (Str × List Str)):Prop:=KTD.tabLook (KTD.datLooks fun b=>K.lookup b) (fun b=>K.lookup b) t (TabD F)=true
def RK (K:PySem.W.Frag) (d:KTD.Dat) (v:Value):Prop:=KTD.datLooks (fun b=>K.lookup b) d v=true
theorem KTbl.here {K:PySem.W.Frag} {t:Addr} {F:List (Str × List Str)} {h:Heap} (k:KTbl K t F) (X:K.In h):KTD.Here h h t (TabD F):=⟨PySem.W.kt_text_in X k,fun _ _ e=>e⟩
section
variable {prog:Program} {w:World} {A:Around} {E:Value→Shared→Prop} {s:Shared}
end
end L2
namespace L2
open PySem PySem.Spec PyProof.Rows
theorem mt_removeS {X:Cx}:MtM X "list.remove" (fun x vs H Q=>∃ (l:Addr) (ys:List Str) (y:Str) (j:Nat),x=.ref l∧vs=[.str y]∧H l=some (.lst (ys.map V.str))∧ys[j]?=some y∧(∀ (i:Nat) (z:Str),i < j→ys[i]?=some z→z≠y)∧Q .non (upd H l (.lst ((ys.map V.str).eraseIdx j)))):=by
  intro pins s σ H x vs v us Q I rx rv h
  obtain ⟨l,ys,y,j,rfl,rfl,hH,hj,hno,q⟩:=h
  cases rx
  obtain ⟨u,rfl,ru⟩:=rv.one
  obtain ⟨tk,rfl⟩:=ru
  obtain ⟨z,its,n,r,hl,e⟩:=I.lstM hH
  have hs:=strsAre_of r
  have hjl:j < ys.length:=(List.getElem?_eq_some_iff.mp hj).1
  rw [List.length_map] at hl
  have at_:∀ (i:Nat) (hi:i < its.length),∃ t,its[i]=.str ys[i] t:=fun i hi=>by
    have hy:(ys.map V.str)[i]?=some (.str ys[i]):=by rw [List.getElem?_map,List.getElem?_eq_getElem (by omega)]; rfl
    obtain ⟨u',h1,t,h2⟩:=r.get hy
    rw [List.getElem?_eq_getElem hi] at h1
    exact ⟨t,(Option.some.inj h1).trans h2⟩
  have ej:ys[j]=y:=Option.some.inj ((List.getElem?_eq_getElem hjl).symm.trans hj)
  refine call_meets PySem.F.slot_list_remove ⟨_,e,rfl⟩ PySem.F.entry_list_remove (PySem.F.args_list_remove_2 _ _)
    (MeetsSeq.list_remove l its.toArray n (.str y tk) (isStrOf y) (fun v hv=>eq_isStrOf y tk hs v (by simpa using hv)) j (by rw [List.size_toArray]; omega) ?_ ?_ ?_) ⟨e,?_⟩
  · show isStrOf y its[j]=true
    obtain ⟨t,h⟩:=at_ j (by omega)
    rw [h,ej]
    exact beq_self_eq_true y
  · intro m hm hlt
    show isStrOf y its[m]=false
    have hm':m < its.length:=by simpa using hm
    obtain ⟨t,h⟩:=at_ m hm'
    rw [h]
    exact beq_eq_false_iff_ne.mpr (hno m _ hlt (List.getElem?_eq_getElem (by omega)))
  · rw [List.size_toArray]
    rw [List.length_map] at z
    omega
  · refine ⟨.non,_,I.lset (its':=its.eraseIdx j) hH e ?_ (r.eraseIdx j) ?_,rfl,q⟩
    · show its.toArray.eraseIdxIfInBounds j=(its.eraseIdx j).toArray
      rw [List.eraseIdxIfInBounds_toArray]
    · have:=len_erase (ys.map V.str) j
      omega
def isRefTo (K:PySem.W.Frag) (nm:Str) (v:Value):Bool:=match PySem.W.nsIn K mainGlobals nm,v with
  | some (some (.ref a)),.ref b=>a == b
  | _,_=>false
def KFT (K:PySem.W.Frag) (t:Addr) (F:List (Str × Str)):Prop:=KTD.tabLook (isRefTo K) (fun b=>K.lookup b) t F=true
theorem ref_to {K:PySem.W.Frag} {nm:Str} {v:Value} (h:isRefTo K nm v=true):∃ f,v=.ref f∧PySem.W.nsIn K mainGlobals nm=some (some (.ref f)):=by
  unfold isRefTo at h
  split at h
  · rename_i a b e
    exact ⟨b,rfl,by rw [e,eq_of_beq h]⟩
  · cases h
theorem KFT.tab {K:PySem.W.Frag} {t:Addr} {F:List (Str × Str)} {h:Heap} (k:KFT K t F) (X:K.In h):KTD.TabOf (fun nm v=>isRefTo K nm v=true) h t F:=KTD.tab_of_look (fun _ _ x=>x) (fun b o q=>X b o q) k
section
variable {prog:Program} {w:World} {A:Around} {E:Value→Shared→Prop} {s:Shared}
theorem ftb_get {δ:Type} {R:δ→Value→Prop} {a:Addr} {k:Str} {tk:Tok} {D:List (Str × δ)} {Q:Option Value→Shared→Prop} (T:KTD.TabOf R s.heap a D) {d:δ} (hd:KTD.datumAt k D=some d)
    (q:∀ v,R d v→Q (some v) { s with toks:=s.toks+1 }):wpAny (model prog w) A (dictGet a (.str k tk)) Q E s:=by
  obtain ⟨_,o,es,ep,ho,hc,he,hr⟩:=T
  unfold dictGet
  try with_reducible refine wpAny_holding ?_
  refine wpAny_bind (wpAny_pyHash_str (wpAny_bind (KTD.kt_dictFind_strs (s:={ s with toks:=s.toks+1 }) ho he (by obtain ⟨l⟩:=es; simpa using hr.exact) ?_)))
  obtain ⟨v,hv,rv⟩:=hr.find_some hd
  have z:findBy (fun k v=>v.isStr k) es k=some v:=by
    obtain ⟨l⟩:=es
    simpa [findBy] using hv
  rw [findBy_of_findIdx?] at z
  cases hi:es.findIdx? fun e=>e.key.isStr k with
  | none=>rw [hi] at z; cases z
  | some i =>
    rw [hi] at z
    refine wpAny_bind (wpAny_dictEntries (s:={ s with toks:=s.toks+1 }) ho he (wpAny_pure ?_))
    rw [show (es[i]?.map (·.val))=some v from z]
    exact q v rv
end
def tFGet (K:PySem.W.Frag) (td ty:TE):TE:=fun σ H Q=>td σ H fun x H1=>ty σ H1 fun y H2=>∃ (t:Addr) (F:List (Str × Str)) (k nm:Str),x=.ref t∧y=.str k∧KFT K t F∧KTD.datumAt k F=some nm ∧
  ∀ f,PySem.W.nsIn K mainGlobals nm=some (some (.ref f))→Q (.ref f) H2
theorem pe_fget {X:Cx} {o i:Expr} {pos:Pos} {td ty:TE} (ho:PE X o td) (hi:PE X i ty) (hs:NoSl i):PE X (.Subscript o i pos) (tFGet X.K td ty):=by
  intro pins s σ H Q I h
  refine subD_of PySem.F.slot_dict_getitem.lookup hs (thn (ho pins s σ H _ I h) fun u s1 ⟨x,H1,I1,rx,q1⟩=>thn (hi pins s1 σ H1 _ I1 q1) fun iv s2 ⟨y,H2,I2,ry,t,F,k,nm,ex,ey,kt,hk,q2⟩=>?_)
  subst ex ey
  cases rx
  obtain ⟨tk,rfl⟩:=ry
  have T:=kt.tab I2.kIn
  have hty:s2.TypeIs (.ref t) "dict":=by
    obtain ⟨_,o,es,ep,ho,hc,_⟩:=T
    exact ⟨o,ho,hc.1⟩
  refine ⟨hty,?_⟩
  unfold getItem
  try with_reducible refine wpAny_holding ?_
  refine wpAny_bind (wpAny_sequenceKey hty (by decide) (wpAny_bind (wpAny_callSpecial?_slot (name:=Str.ofString "__getitem__") hty slot_dict_getitem
    (wpAny_call_entry slot_dict_getitem hty entry_dict_getitem ?_ (args_dict_getitem _ _)))))
  show wpAny _ _ (dictGet t (.str k tk) >>= _) _ _ s2
  refine wpAny_bind (ftb_get T hk fun v rv=>wpAny_pure ⟨v,rfl,wpAny_pure ?_⟩)
  obtain ⟨f,rfl,hf⟩:=ref_to rv
  exact ⟨.ref f,H2,I2.tok _,rfl,q2 f hf⟩
theorem call_setNw {X:Cx} {w:World} (hw:X.w=w) (hc:X.calm=true):CallR X (.type "set") (rSetN X.K w):=by subst hw; exact call_setN hc
theorem call_sortedSNw {X:Cx} {w:World} (hw:X.w=w) (hc:X.calm=true) (hu:X.A.units+64 < cLine):CallR X (.builtin "sorted") (rSortSN w):=by subst hw; exact call_sortedSN hc hu
theorem call_list_ofK {X:Cx} {K:PySem.W.Frag} (hK:X.K=K):CallR X (.type "list") (fun xs H Q=>∃ p ys,xs=[.ref p]∧(SqL K H p ys∨SqT K H p ys)∧∀ l,H l=none→Q (.ref l) (upd H l (.lst ys))):=by subst hK; exact call_list_of
def MgK (K:PySem.W.Frag) (mg:Str→Option Value):Prop:=∀ (nm:Str) (v:Value),PySem.W.nsIn K mainGlobals nm=some (some v)→mg nm=some v
theorem mgk {K:PySem.W.Frag} {mg:Str→Option Value} {h:Heap} (X:K.In h) (G:h.Ns mainGlobals mg):MgK K mg:=fun _ _ e=>PySem.W.mg_of X G e
end L2
namespace L2
open PySem PySem.Spec PyProof.Rows
inductive Th where
  | non | bl (b:Bool) | int (i:Int) | str (x:Str) | tup (ts:List Th) | lst | dct
mutual
def ThV (K:PySem.W.Frag) (B:List Addr) (H:Hp):V→Th→Prop
  | v,.non=>v=.non
  | v,.bl b=>v=.bl b
  | v,.int i=>v=.int i
  | v,.str x=>v=.str x∧x.length≤1000
  | v,.tup ts=>∃ (p:Addr) (vs:List V),v=.ref p∧SqT K H p vs∧ThL K B H vs ts
  | v,.lst=>∃ (p:Addr) (vs:List V),v=.ref p∧p ∉ B∧H p=some (.lst vs)
  | v,.dct=>∃ (p:Addr) (kvs:List (Key × V)),v=.ref p∧p ∉ B∧H p=some (.dK kvs)
def ThL (K:PySem.W.Frag) (B:List Addr) (H:Hp):List V→List Th→Prop
  | [],[]=>True
  | v :: vs,t :: ts=>ThV K B H v t∧ThL K B H vs ts
  | _,_=>False
end
section
variable {K:PySem.W.Frag} {B:List Addr} {H H':Hp}
theorem sqT_kept {a:Addr} {xs:List V} (e:∀ (b:Addr) (o:HO),H b=some o→(∀ ys,o≠.lst ys)→(∀ ys,o≠.dK ys)→H' b=some o) (h:SqT K H a xs):SqT K H' a xs:=by
  rcases h with (h | ⟨o,h⟩) | h
  · exact .inl (.inl (e _ _ h (fun _ z=>nomatch z) (fun _ z=>nomatch z)))
  · exact .inl (.inr ⟨o,e _ _ h (fun _ z=>nomatch z) (fun _ z=>nomatch z)⟩)
  · exact .inr h
mutual
theorem ThV.keep (e:∀ (b:Addr) (o:HO),H b=some o→(∀ ys,o≠.lst ys)→(∀ ys,o≠.dK ys)→H' b=some o) (f:∀ (b:Addr) (o:HO),b ∉ B→H b=some o→H' b=some o):∀ {t:Th} {v:V},ThV K B H v t→ThV K B H' v t
  | .non,_,h=>h
  | .bl _,_,h=>h
  | .int _,_,h=>h
  | .str _,_,h=>h
  | .tup ts,_,h=>by
    obtain ⟨p,vs,rfl,hp,hd⟩:=h
    exact ⟨p,vs,rfl,sqT_kept e hp,ThL.keep e f hd⟩
  | .lst,_,h=>by
    obtain ⟨p,vs,rfl,hb,hp⟩:=h
    exact ⟨p,vs,rfl,hb,f _ _ hb hp⟩
  | .dct,_,h=>by
    obtain ⟨p,vs,rfl,hb,hp⟩:=h
    exact ⟨p,vs,rfl,hb,f _ _ hb hp⟩
theorem ThL.keep (e:∀ (b:Addr) (o:HO),H b=some o→(∀ ys,o≠.lst ys)→(∀ ys,o≠.dK ys)→H' b=some o) (f:∀ (b:Addr) (o:HO),b ∉ B→H b=some o→H' b=some o):∀ {ts:List Th} {vs:List V},ThL K B H vs ts→ThL K B H' vs ts
  | [],[],_=>trivial
  | _ :: _,_ :: _,h=>⟨ThV.keep e f h.1,ThL.keep e f h.2⟩
  | [],_ :: _,h=>h.elim
  | _ :: _,[],h=>h.elim
end
end
end L2
namespace L2
open PySem PySem.Spec PyProof.Rows
def rEqE:R2:=fun x y H Q=>∃ (l b:Addr) (xs:List V),x=.ref l∧y=.ref b∧H l=some (.lst xs)∧H b=some (.lst [])∧Q (.bl xs.isEmpty) H
theorem op_eqE {X:Cx} (hu:X.A.units < cLine):OpR X (compareOp .Eq) rEqE:=by
  intro pins s σ H x y v u Q I rx ry h
  obtain ⟨l,b,xs,rfl,rfl,hl,hb,q⟩:=h
  cases rx
  cases ry
  obtain ⟨its,r1,p1,_⟩:=I.list (SqL.of (K:=X.K) hl)
  obtain ⟨its2,r2,p2,_⟩:=I.list (SqL.of (K:=X.K) hb)
  cases r2
  cases r1 with
  | nil=>exact SeqAt.eq_listAt (e:=fun _=>true) p1.isList p2.isList rfl hu (fun j h1 _=>absurd h1 (Nat.not_lt_zero j)) ⟨.bl true,H,I,rfl,q⟩
  | cons _ _=>exact SeqAt.eq_list_lengthsAt p1.isList p2.isList (by simp) hu ⟨.bl false,H,I,rfl,q⟩
def GoodV (H:Hp):V→Prop
  | .str x=>x.length≤1000
  | .non=>True
  | .bl _=>True
  | .int _=>True
  | .ref p=>(∃ xs,H p=some (.lst xs))∨(∃ xs,H p=some (.tup xs))∨∃ kvs,H p=some (.dK kvs)
  | _=>False
end L2
namespace L2
open PySem PySem.Spec PyProof.Rows
def notStar:Expr→Bool
  | .Starred ..=>false
  | _=>true
theorem star_cons {e:Expr} {es:List Expr} {env:Env} (h:notStar e=true):starEach (e :: es) env=(false,eval e env) :: starEach es env:=by
  cases e <;> first | rfl | cases h
theorem pa_c {X:Cx} {e:Expr} {es:List Expr} {te:TE} {t:TA} (ha:PE X e te) (hr:PA X es t) (h:notStar e=true:=by rfl):PA X (e :: es) (tCons te t):=pa_cons ha hr (star_cons h)
structure QSs (X:Cx) (st:List Stmt) (t:TS):Prop where
  h:PSs X st t
structure QS (X:Cx) (st:Stmt) (t:TS):Prop where
  h:PS X st t
structure QE (X:Cx) (e:Expr) (t:TE):Prop where
  h:PE X e t
structure QA (X:Cx) (es:List Expr) (t:TA):Prop where
  h:PA X es t
theorem qss_cons {X:Cx} {st:Stmt} {rest:List Stmt} {t u:TS} (h1:QS X st t) (h2:QSs X rest u):QSs X (st :: rest) (tSeq t u):=⟨pss_cons h1.h h2.h⟩
theorem qs_set {X:Cx} {i:Nat} {x:Str} {e:Expr} {te:TE} {pos pos':Pos} (hN:X.N.Nodup) (hi:X.N[i]?=some x) (hx:Loc X.env.scope x) (he:QE X e te) (hs:swapsWith e (some (.Name x pos')) pos.line X.env=pure false:=by rfl)
    (hf:X.fn x=true∨X.env.scope.names.lookup x=some .local:=by first | exact .inl rfl | exact .inr rfl):QS X (.Assign [.Name x pos'] e pos) (tAsg te (gName i)):=⟨ps_set hN hi hx he.h hs hf⟩
theorem qe_lst {X:Cx} {es:List Expr} {t:TA} {pos:Pos} (h:QA X es t):QE X (.List es pos) (tLst t):=⟨pe_lst h.h⟩
theorem qa_nil {X:Cx}:QA X [] tNil:=⟨pa_nil⟩
theorem qa_c {X:Cx} {e:Expr} {es:List Expr} {te:TE} {t:TA} (ha:QE X e te) (hr:QA X es t) (h:notStar e=true:=by rfl):QA X (e :: es) (tCons te t):=⟨pa_c ha.h hr.h h⟩
end L2
namespace L2
open PySem PySem.Spec PyProof.Rows
end L2
namespace L2
open PySem PySem.Spec PyProof.Rows
structure QPs (X:Cx) (pos:Pos) (keys:List (Option Expr)) (values:List Expr) (trs:List (TE × TE)):Prop where
  h:PPs X pos keys values trs
theorem qps_nil {X:Cx} {pos:Pos}:QPs X pos [] [] []:=⟨pps_nil⟩
theorem qps_cons {X:Cx} {pos:Pos} {k v:Expr} {ks:List (Option Expr)} {vs:List Expr} {tk tv:TE} {trs:List (TE × TE)} (hk:QE X k tk) (hv:QE X v tv) (hr:QPs X pos ks vs trs):QPs X pos (some k :: ks) (v :: vs) ((tk,tv) :: trs):=⟨pps_cons hk.h hv.h hr.h⟩
theorem qe_disp {X:Cx} {pos:Pos} {keys:List (Option Expr)} {values:List Expr} {trs:List (TE × TE)} (h:QPs X pos keys values trs) (hall:keys.all (·.isSome)=true) (hl:keys.length=values.length) (h0:keys≠[]) (h15:keys.length≤15):QE X (.Dict keys values pos) (tDisp trs):=⟨pe_disp h.h hall hl h0 h15⟩
theorem qe_str {X:Cx} {x:Str} {k:Nat} {pos:Pos}:QE X (.Constant (.str x) k pos) (tC (.str x)):=⟨pe_str⟩
end L2
namespace L2
open PySem PySem.Spec PyProof.Rows
end L2
namespace L2
open PySem PySem.Spec PyProof.Rows
section
variable {X:Cx}
end
end L2
namespace L2
open PySem PySem.Spec PyProof.Rows
structure QI (X:Cx) (tg e:Expr) (t:TI):Prop where
  h:PI X tg e t
theorem qss_one {X:Cx} {st:Stmt} {t:TS} (h1:QS X st t):QSs X [st] t:=⟨pss_one h1.h⟩
end L2
namespace M08
end M08
namespace L2
open M08
end L2
namespace Mine
open PySem L2 PyProof.Rows
def top (i:Nat):Stmt:=PySem.Challenge.pw_twainkeep_k19_put_and_moved.main.body.getD i (.Pass ⟨0,0,0,0⟩)
abbrev sNamesOf:Stmt:=top 10
abbrev sPartOf:Stmt:=top 11
abbrev sHasPart:Stmt:=top 12
abbrev sSideOf:Stmt:=top 13
abbrev sReplaced:Stmt:=top 22
abbrev sPartsWithout:Stmt:=top 25
abbrev sPartsWith:Stmt:=top 26
abbrev sCheckBehind:Stmt:=top 29
abbrev sCheckNew:Stmt:=top 30
abbrev sPutDone:Stmt:=top 32
abbrev sMoveDone:Stmt:=top 39
abbrev sDone:Stmt:=top 51
abbrev sPot:Stmt:=top 53
abbrev sNext:Stmt:=top 54
abbrev sCount:Stmt:=top 55
abbrev sNames:Stmt:=top 56
abbrev sTaken:Stmt:=top 57
abbrev sText:Stmt:=top 58
abbrev sMoments:Stmt:=top 59
abbrev sSides:Stmt:=top 60
abbrev sSome:Stmt:=top 61
abbrev sStood:Stmt:=top 62
abbrev sBook:Stmt:=top 63
abbrev sModel:Stmt:=top 64
abbrev sAsBook:Stmt:=top 65
abbrev sSide:Stmt:=top 66
abbrev sPutIn:Stmt:=top 67
abbrev sBadPlace:Stmt:=top 68
abbrev sPut:Stmt:=top 69
abbrev sMove:Stmt:=top 70
abbrev sDo:Stmt:=top 71
abbrev sPick:Stmt:=top 72
abbrev sDeed:Stmt:=top 73
abbrev sTried:Stmt:=top 74
abbrev sKinds:Stmt:=top 75
abbrev sWalked:Stmt:=top 76
abbrev sLaw:Stmt:=top 77
theorem same_updN {H H':Hp} {l:Addr} {o:HO} (s:Same H H') (h:H l=none):Same H (upd H' l o):=fun c u z=>by
  rw [upd_ne (ne_of_none z h)]
  exact s c u z
theorem ex_at {α:Type} {xs:List α} {i:Nat} (h:i < xs.length):xs[i]?=some xs[i]:=List.getElem?_eq_getElem h
theorem take_one {α:Type} {xs:List α} {i:Nat} {x:α} (h:xs[i]?=some x):xs.take (i+1)=xs.take i++[x]:=by rw [List.take_add_one,h]; rfl
theorem at_of {H:Hp} {vs:List V} {ds:List D} (d:DenL H vs ds) {i:Nat} {v:V} (h:vs[i]?=some v) {e:D} (he:ds[i]?=some e):Den H v e:=by
  obtain ⟨f,hf,k⟩:=d.at_ h
  rw [hf] at he
  cases he
  exact k
theorem kt_of {H:Hp} {l:Addr} {us ws:List V} (e:H l=some (.lst us)):∀ (b:Addr) (vs:List V),H b=some (.tup vs)→(upd H l (.lst ws)) b=some (.tup vs):=fun b vs z=>by
  rw [upd_ne]
  · exact z
  · intro q
    rw [q,e] at z
    cases z
theorem seqP {t u:TS} {D:Ends} {σ:L2.St} {H:Hp} (P:L2.St→Hp→Prop) (h1:∀ N:L2.St→Hp→Prop,(∀ σ' H',P σ' H'→N σ' H')→t { D with nx:=N } σ H) (h2:∀ σ' H',P σ' H'→u D σ' H'):tSeq t u D σ H:=h1 (u D) h2
theorem nxP {t u:TS} {D:Ends} {r:VK} {b c:L2.St→Hp→Prop} {σ:L2.St} {H:Hp} (P:L2.St→Hp→Prop) (h1:∀ N:L2.St→Hp→Prop,(∀ σ' H',P σ' H'→N σ' H')→t { D with nx:=N } σ H) (h2:∀ σ' H',P σ' H'→u D σ' H'):Ends.nx ⟨tSeq t u D,r,b,c⟩ σ H:=h1 (u D) h2
def goodS (c:Nat):Prop:=(32≤c∧c≤126)∨c=10
def TupD (K:PySem.W.Frag) (H:Hp) (v:V) (ds:List D):Prop:=∃ (p:Addr) (us:List V),v=.ref p∧SqT K H p us∧DenL H us ds
abbrev Nms:=List (List Nat)
abbrev Prt:=List Nat × List Nat × List Int
abbrev Lnk:=Nms × Nms × Int × List Int × List Int
def momD (ms:List Int):D:=.tup (ms.map D.int)
def namesD (ns:Nms):D:=.tup (ns.map sD)
def partD (q:Prt):D:=.tup [sD q.1,sD q.2.1,momD q.2.2]
def linkD (k:Lnk):D:=.tup [namesD k.1,namesD k.2.1,.int k.2.2.1,.tup [momD k.2.2.2.1,momD k.2.2.2.2]]
def GoodM (ms:List Int):Prop:=(∀ n∈ms,0≤n∧n≤1000000000000)∧ms.Pairwise (· < ·)∧ms.length≤60
def GoodN (ns:Nms):Prop:=(∀ x∈ns,isNm ⟨x.toArray⟩=true)∧ns.Pairwise (fun a b=>dlt (sD a) (sD b)=true)∧ns.length≤1000
def GoodP (q:Prt):Prop:=isNm ⟨q.1.toArray⟩=true∧q.2.1.length≤1000∧(∀ c∈q.2.1,goodS c)∧GoodM q.2.2∧q.2.2≠[]
def GoodL (k:Lnk):Prop:=GoodN k.1∧GoodN k.2.1∧k.1≠[]∧k.2.1≠[]∧0≤k.2.2.1∧k.2.2.1≤1000000000000∧GoodM k.2.2.2.1∧GoodM k.2.2.2.2
theorem denI {H:Hp}:∀ {cs:List Int} {vs:List V},DenL H vs (cs.map D.int)→vs=cs.map V.int
  | [],[],_=>rfl
  | _ :: cs,v :: vs,h=>by
    have e:v=.int _:=h.1
    rw [e,denI h.2]
    rfl
  | [],_ :: _,h=>h.elim
  | _ :: _,[],h=>h.elim
theorem denI_of (H:Hp):∀ cs:List Int,DenL H (cs.map V.int) (cs.map D.int)
  | []=>trivial
  | _ :: cs=>⟨rfl,denI_of H cs⟩
theorem denl_app {H:Hp}:∀ {ds es:List D} {vs us:List V},DenL H vs ds→DenL H us es→DenL H (vs++us) (ds++es)
  | [],_,[],_,_,h=>h
  | _ :: _,_,_ :: _,_,h,g=>⟨h.1,denl_app h.2 g⟩
  | [],_,_ :: _,_,h,_=>h.elim
  | _ :: _,_,[],_,h,_=>h.elim
theorem shal_ups {n:Nat} {d:D} (h:Shal n d):∀ k,Shal (n+k) d
  | 0=>h
  | k+1=>(shal_ups h k).up
theorem shal_tup {n:Nat} {ds:List D} (hl:ds.length≤100000) (h:∀ d∈ds,Shal n d):Shal (n+1) (.tup ds) :=
  ⟨(fun z=>nomatch z),fun es e=>by injection e with e; subst e; exact ⟨hl,h⟩⟩
theorem shal_mom {ms:List Int} (h:ms.length≤1000):Shal 1 (momD ms):=shal_tup (by rw [List.length_map]; omega) fun d hd=>by
  obtain ⟨i,_,rfl⟩:=List.mem_map.mp hd
  exact shal_int i
theorem shal_names {ns:Nms} (h:ns.length≤1000):Shal 1 (namesD ns):=shal_tup (by rw [List.length_map]; omega) fun d hd=>by
  obtain ⟨i,_,rfl⟩:=List.mem_map.mp hd
  exact shal_str _
theorem simL_map {α β:Type} {f:α→D} {g:β→D} (h:∀ a b,Sim (f a) (g b)):∀ (xs:List α) (ys:List β),SimL (xs.map f) (ys.map g)
  | [],_=>SimL_n _
  | _ :: _,[]=>SimL_m _
  | x :: xs,y :: ys=>SimL_c (h x y) (simL_map h xs ys)
theorem sim_int (a b:Int):Sim (.int a) (.int b):=trivial
theorem sim_str (a b:Str):Sim (.str a) (.str b):=trivial
theorem sim_mom (a b:List Int):Sim (momD a) (momD b):=Sim_t (simL_map (fun a b=>sim_int a b) a b)
theorem sim_names (a b:Nms):Sim (namesD a) (namesD b):=Sim_t (simL_map (fun a b=>sim_str _ _) a b)
theorem sim_link (a b:Lnk):Sim (linkD a) (linkD b):=by
  unfold linkD
  exact Sim_t (SimL_c (sim_names _ _) (SimL_c (sim_names _ _) (SimL_c (sim_int _ _) (SimL_c (Sim_t (SimL_c (sim_mom _ _) (SimL_c (sim_mom _ _) (SimL_n _)))) (SimL_n _)))))
theorem shal_link {q:Lnk} (g:GoodL q):Shal 3 (linkD q):=by
  obtain ⟨g1,g2,g3,g4,g5,g6,g7,g8⟩:=g
  refine shal_tup (by simp) fun d hd=>?_
  simp only [List.mem_cons,List.not_mem_nil,or_false] at hd
  rcases hd with rfl | rfl | rfl | rfl
  · exact (shal_names g1.2.2).up
  · exact (shal_names g2.2.2).up
  · exact (shal_int _).up.up
  · refine shal_tup (by simp) fun d hd=>?_
    simp only [List.mem_cons,List.not_mem_nil,or_false] at hd
    rcases hd with rfl | rfl
    · exact shal_mom (Nat.le_trans g7.2.2 (by decide))
    · exact shal_mom (Nat.le_trans g8.2.2 (by decide))
theorem den_link {H:Hp} {v:V} {q:Lnk} (h:Den H v (linkD q)):∃ (p p0 p1 p3 p4 p5:Addr) (us0 us1:List V),v=.ref p∧H p=some (.tup [.ref p0,.ref p1,.int q.2.2.1,.ref p3])∧H p0=some (.tup us0)∧DenL H us0 (q.1.map sD)∧H p1=some (.tup us1)∧DenL H us1 (q.2.1.map sD) ∧
    H p3=some (.tup [.ref p4,.ref p5])∧H p4=some (.tup (q.2.2.2.1.map V.int))∧H p5=some (.tup (q.2.2.2.2.map V.int)):=by
  obtain ⟨p,us,rfl,hp,hd⟩:=den_tup h
  obtain ⟨b0,b1,b2,b3,rfl⟩:∃ b0 b1 b2 b3,us=[b0,b1,b2,b3]:=by
    match us,hd with
    | [b0,b1,b2,b3],_=>exact ⟨b0,b1,b2,b3,rfl⟩
    | [],h=>exact h.elim
    | [_],h=>exact h.2.elim
    | [_,_],h=>exact h.2.2.elim
    | [_,_,_],h=>exact h.2.2.2.elim
    | _ :: _ :: _ :: _ :: _ :: _,h=>exact h.2.2.2.2.elim
  obtain ⟨p0,us0,rfl,h0,hd0⟩:=den_tup hd.1
  obtain ⟨p1,us1,rfl,h1,hd1⟩:=den_tup hd.2.1
  have e2:b2=.int q.2.2.1:=hd.2.2.1
  subst e2
  obtain ⟨p3,us3,rfl,h3,hd3⟩:=den_tup hd.2.2.2.1
  obtain ⟨c0,c1,rfl⟩:∃ c0 c1,us3=[c0,c1]:=by
    match us3,hd3 with
    | [c0,c1],_=>exact ⟨c0,c1,rfl⟩
    | [],h=>exact h.elim
    | [_],h=>exact h.2.elim
    | _ :: _ :: _ :: _,h=>exact h.2.2.elim
  obtain ⟨p4,us4,rfl,h4,hd4⟩:=den_tup hd3.1
  obtain ⟨p5,us5,rfl,h5,hd5⟩:=den_tup hd3.2.1
  rw [denI hd4] at h4
  rw [denI hd5] at h5
  exact ⟨p,p0,p1,p3,p4,p5,us0,us1,rfl,hp,h0,hd0,h1,hd1,h3,h4,h5⟩
def bookD (L R:List Prt) (ks:List Lnk) (al:Nms):D:=.tup [.tup (L.map partD),.tup (R.map partD),.tup (ks.map linkD),namesD al]
def nmsOf (L:List Prt):List V:=L.map fun q=>mkT q.1
def sideOf (n:Nat) (k:Lnk):Nms:=if n=0 then k.1 else k.2.1
def linkedN (n:Nat) (ks:List Lnk):Nms:=ks.flatMap (sideOf n)
def BookK (K:PySem.W.Frag) (H:Hp) (v:V) (L R:List Prt) (ks:List Lnk) (al:Nms):Prop:=∃ (p pl pr pk pa:Addr) (ls rs us:List V),v=.ref p∧SqT K H p [.ref pl,.ref pr,.ref pk,.ref pa]∧SqT K H pl ls∧DenL H ls (L.map partD)∧SqT K H pr rs∧DenL H rs (R.map partD)∧SqT K H pk us∧DenL H us (ks.map linkD)∧SqT K H pa (al.map mkT)
theorem denS {H:Hp}:∀ {cs:Nms} {vs:List V},DenL H vs (cs.map sD)→vs=cs.map mkT
  | [],[],_=>rfl
  | _ :: cs,v :: vs,h=>by
    have e:v=mkT _:=h.1
    rw [e,denS h.2]
    rfl
  | [],_ :: _,h=>h.elim
  | _ :: _,[],h=>h.elim
theorem denS_of (H:Hp):∀ cs:Nms,DenL H (cs.map mkT) (cs.map sD)
  | []=>trivial
  | _ :: cs=>⟨rfl,denS_of H cs⟩
structure GoodB (L R:List Prt) (ks:List Lnk) (al:Nms):Prop where
  parts:∀ q∈L++R,GoodP q
  nd:((L++R).map (·.1)).Nodup
  lL:L.length≤1000
  lR:R.length≤1000
  links:∀ k∈ks,GoodL k
  up:ks.Pairwise fun a b=>dlt (linkD a) (linkD b)=true
  lk:ks.length≤1000
  alone:GoodN al
  on:∀ x∈linkedN 0 ks,x∈L.map (·.1)
  off:∀ x∈linkedN 1 ks,x∈R.map (·.1)
  nd2:(linkedN 0 ks++linkedN 1 ks++al).Nodup
  len:(linkedN 0 ks++linkedN 1 ks++al).length≤4000
  al_in:∀ x∈al,x∈(L++R).map (·.1)
theorem den_book {H:Hp} {v:V} {L R:List Prt} {ks:List Lnk} {al:Nms} (h:Den H v (bookD L R ks al)):∃ (p pl pr pk pa:Addr) (ls rs us:List V),v=.ref p∧H p=some (.tup [.ref pl,.ref pr,.ref pk,.ref pa])∧H pl=some (.tup ls)∧DenL H ls (L.map partD)∧H pr=some (.tup rs)∧DenL H rs (R.map partD)∧H pk=some (.tup us)∧DenL H us (ks.map linkD)∧H pa=some (.tup (al.map mkT)):=by
  obtain ⟨p,us,rfl,hp,hd⟩:=den_tup h
  obtain ⟨b0,b1,b2,b3,rfl⟩:∃ b0 b1 b2 b3,us=[b0,b1,b2,b3]:=by
    match us,hd with
    | [b0,b1,b2,b3],_=>exact ⟨b0,b1,b2,b3,rfl⟩
    | [],h=>exact h.elim
    | [_],h=>exact h.2.elim
    | [_,_],h=>exact h.2.2.elim
    | [_,_,_],h=>exact h.2.2.2.elim
    | _ :: _ :: _ :: _ :: _ :: _,h=>exact h.2.2.2.2.elim
  obtain ⟨pl,ls,rfl,hpl,hdl⟩:=den_tup hd.1
  obtain ⟨pr,rs,rfl,hpr,hdr⟩:=den_tup hd.2.1
  obtain ⟨pk,ws,rfl,hpk,hdk⟩:=den_tup hd.2.2.1
  obtain ⟨pa,as,rfl,hpa,hda⟩:=den_tup hd.2.2.2.1
  rw [denS hda] at hpa
  exact ⟨p,pl,pr,pk,pa,ls,rs,ws,rfl,hp,hpl,hdl,hpr,hdr,hpk,hdk,hpa⟩
theorem BookK.of {K:PySem.W.Frag} {H:Hp} {v:V} {L R:List Prt} {ks:List Lnk} {al:Nms} (h:Den H v (bookD L R ks al)):BookK K H v L R ks al:=by
  obtain ⟨p,pl,pr,pk,pa,ls,rs,us,rfl,a1,a2,a3,a4,a5,a6,a7,a8⟩:=den_book h
  exact ⟨p,pl,pr,pk,pa,ls,rs,us,rfl,SqT.of a1,SqT.of a2,a3,SqT.of a4,a5,SqT.of a6,a7,SqT.of a8⟩
theorem find_first {α:Type} {p:α→Bool}:∀ {xs:List α} {i:Nat} (hi:i < xs.length),(∀ x∈xs.take i,p x=false)→p xs[i]=true→xs.find? p=some xs[i]
  | x :: xs,0,_,_,h=>by
    rw [List.find?_cons,show p x=true from h]
    rfl
  | x :: xs,i+1,hi,h0,h=>by
    rw [List.find?_cons,h0 x (by rw [List.take_succ_cons]; exact .head _)]
    exact find_first (by simpa using hi) (fun y hy=>h0 y (by rw [List.take_succ_cons]; exact .tail _ hy)) h
theorem den_part {H:Hp} {v:V} {q:Prt} (h:Den H v (partD q)):∃ (b pm:Addr),v=.ref b∧H b=some (.tup [mkT q.1,mkT q.2.1,.ref pm])∧H pm=some (.tup (q.2.2.map V.int)):=by
  obtain ⟨b,bs,rfl,hb,hbd⟩:=den_tup h
  match bs,hbd with
  | [c0,c1,c2],hbd =>
    have e0:c0=mkT q.1:=hbd.1
    have e1:c1=mkT q.2.1:=hbd.2.1
    obtain ⟨pm,ms,rfl,h1,h2⟩:=den_tup hbd.2.2.1
    rw [denI h2] at h1
    exact ⟨b,pm,rfl,by rw [hb,e0,e1],h1⟩
  | [],h=>exact h.elim
  | [_],h=>exact h.2.elim
  | [_,_],h=>exact h.2.2.elim
  | _ :: _ :: _ :: _ :: _,h=>exact h.2.2.2.elim
def partN (ps:List Prt) (x:List Nat):Option Prt:=ps.find? fun p=>decide (p.1=x)
def spPartOf (K:PySem.W.Frag) (C:Addr):Sp:=fun vs H Q E=>∃ (v:V) (L R:List Prt) (ks:List Lnk) (al:Nms) (x:List Nat),vs=[v,mkT x]∧BookK K H v L R ks al∧L.length≤60∧R.length≤60∧x.length≤1000 ∧
  (∀ p,partN (L++R) x=some p→∀ (u:V) (H':Hp),Same H H'→Den H' u (partD p)→Q u H')∧(partN (L++R) x=none→Thrown C H E)
section
variable {P:Program} {w:World} {K:PySem.W.Frag} {mg:Str→Option Value} {base:Heap} {a_NoPart:Addr}
theorem scPartOf:FnScope ["book", "name", "part"] ["book", "name"] (defScope sPartOf):=⟨rfl,rfl,rfl,by decide +kernel,rfl,by decide +kernel,by decide +kernel⟩
theorem c_part_of (h:Has K mg "part_of" sPartOf ["book", "name"]) (q_NoPart:mg "NoPart" = some (.ref a_NoPart)) (x_NoPart:PySem.W.excIn K a_NoPart vBm "ValueError.__new__" = true):Cal1 P w K mg base "part_of" 1 ["book", "name"] (spPartOf K a_NoPart):=by
  refine h.mk1 scPartOf (fun vs H Q E hs=>?_) (fun f cdv A outer s H vs Q E hr hs=>?_)
  · obtain ⟨v,L,R,ks,al,x,rfl,_⟩:=hs
    rfl
  obtain ⟨v,L,R,ks,al,x,rfl,hv,hlL,hlR,hlx,k1,k2⟩:=hs
  refine ⟨_,(pss_cons (ps_for PassesOwn.leaving rfl (pi_tup (pe_op op_catT3 (pe_ix ix_tup (pv 0) pe_int (fun _ _=>rfl)) (pe_ix ix_tup (pv 0) pe_int (fun _ _=>rfl)))) (pg_name (i:=2) scPartOf.nd rfl (Or.inl rfl))
      (pss_one (ps_if (pt_cmpR op_eq (pe_ix ix_tup (pv 2) pe_int (fun _ _=>rfl)) (pv 1) (nomark _))
      (pss_one (ps_ret (pv 2)))
      pss_nil)))
    (pss_one (ps_raise rfl throws1 rfl q_NoPart x_NoPart (pa_cons (pe_fstr (pj_cons pe_str (pj_cons (pe_fmt (pv 1)) pj_nil))) pa_nil)))),?_⟩
  obtain ⟨p,pl,pr,pk,pa,ls,rs,ws,rfl,hp,hpl,hdl,hpr,hdr,hpk,hdk,hpa⟩:=hv
  have at0:atI [V.ref pl,V.ref pr,V.ref pk,V.ref pa] 0=some (.ref pl):=atI_zero _ _
  have at1:atI [V.ref pl,V.ref pr,V.ref pk,V.ref pa] 1=some (.ref pr):=atI_nat (xs:=[V.ref pl,V.ref pr,V.ref pk,V.ref pa]) (j:=1) rfl
  have hl1:=hdl.len
  have hl2:=hdr.len
  rw [List.length_map] at hl1 hl2
  refine ⟨_,rfl,p,_,_,_,rfl,rfl,hp,at0,_,rfl,p,_,_,_,rfl,rfl,hp,at1,pl,pr,_,_,rfl,rfl,hpl,hpr,small (by omega),fun q3 H3 s3 e3=>?_⟩
  have dA:DenL H (ls++rs) ((L++R).map partD):=by
    rw [List.map_append]
    exact denl_app hdl hdr
  refine ⟨q3,rfl,⟨_,e3⟩,?_⟩
  refine for_tup (K:=K) (a:=q3) (xs:=ls++rs) (fun j σ H4=>∃ v2:Option V,σ=[some (.ref p),some (mkT x),v2]∧Same H H4∧SqT K H4 q3 (ls++rs)∧∀ q∈(L++R).take j,decide (q.1=x)=false) ⟨_,rfl,s3,e3,fun q hq=>by rw [List.take_zero] at hq; cases hq⟩ ?_ ?_ ?_
  · rintro j σ H4 _ ⟨_,_,_,e4,_⟩
    exact e4
  · rintro j y σ H4 hj ⟨v2,rfl,s4,e4,hno⟩
    obtain ⟨dd,hdd,dyp⟩:=dA.at_ hj
    have hnj:j < (L++R).length:=by
      have:=(List.getElem?_eq_some_iff.mp hdd).1
      rwa [List.length_map] at this
    rw [List.getElem?_map,List.getElem?_eq_getElem hnj] at hdd
    have edd:partD (L++R)[j]=dd:=Option.some.inj hdd
    subst edd
    have htk:(L++R).take (j+1)=(L++R).take j++[(L++R)[j]]:=by
      rw [List.take_add_one,List.getElem?_eq_getElem hnj]
      rfl
    have hfirst:decide ((L++R)[j].1=x)=true→partN (L++R) x=some (L++R)[j]:=fun h=>find_first hnj hno h
    generalize (L++R)[j]=q at dyp htk hfirst
    obtain ⟨bq,pm,rfl,hbq,hpm⟩:=den_part (dyp.same s4)
    refine gN ⟨_,rfl,bq,_,_,_,rfl,rfl,SqT.of hbq,atI_zero _ _,_,rfl,rfl,_,rfl,?_⟩
    have ez:∀ a b:List Nat,decide (mkT a=mkT b)=decide (a=b):=fun a b=>by
      by_cases h:a=b
      · subst h; simp
      · rw [decide_eq_false h]
        exact decide_eq_false fun z=>h (by injection z with z; injection z with z; exact (Array.mk.inj z))
    refine ite2 (fun z=>?_) (fun z=>?_)
    · have z':decide (q.1=x)=true:=by rw [← ez]; exact z
      exact ⟨_,rfl,k1 q (hfirst z') _ _ s4 (dyp.same s4)⟩
    · have z':decide (q.1=x)=false:=by rw [← ez]; exact Bool.eq_false_iff.mpr z
      refine ⟨_,rfl,s4,e4,fun q' hq'=>?_⟩
      rw [htk] at hq'
      rcases List.mem_append.mp hq' with h | h
      · exact hno q' h
      · rw [List.mem_singleton.mp h]; exact z'
  · rintro σ H4 ⟨v2,rfl,s4,e4,hno⟩
    have hn:partN (L++R) x=none:=List.find?_eq_none.mpr fun q hq=>by
      have hlen:(ls++rs).length=(L++R).length:=by rw [List.length_append,List.length_append,hl1,hl2]
      have:=hno q (by rw [hlen,List.take_length]; exact hq)
      rw [this]; decide
    have th:=(k2 hn).up s4
    have hx1:(⟨x.toArray⟩:Str).length≤sizeLine:=by
      show x.toArray.size≤sizeLine
      rw [List.size_toArray]; exact Nat.le_of_lt (small1000 hlx)
    have hx2:((Str.empty++Str.ofString "there is no part ")++(⟨x.toArray⟩:Str)).length≤sizeLine:=by
      rw [strLen_append]
      have e1:(Str.empty++Str.ofString "there is no part ").length=17:=by decide +kernel
      rw [e1]
      show 17+x.toArray.size≤sizeLine
      rw [List.size_toArray]
      exact Nat.le_trans (Nat.add_le_add_left hlx 17) (by decide)
    refine ⟨_,rfl,by decide +kernel,_,rfl,.inl ⟨_,rfl,hx1,_,rfl,hx2,hx2,?_⟩⟩
    exact ⟨smn 1,fun e T he hT=>th.made he hT⟩
end
theorem sim_part (a b:Prt):Sim (partD a) (partD b):=by
  unfold partD
  exact Sim_t (SimL_c (sim_str _ _) (SimL_c (sim_str _ _) (SimL_c (sim_mom _ _) (SimL_n _))))
theorem shal_part {q:Prt} (h:q.2.2.length≤1000):Shal 2 (partD q):=by
  refine shal_tup (by simp) fun d hd=>?_
  simp only [List.mem_cons,List.not_mem_nil,or_false] at hd
  rcases hd with rfl | rfl | rfl
  · exact (shal_str _).up
  · exact (shal_str _).up
  · exact shal_mom h
theorem part_inj {a b:Prt} (h:partD a=partD b):a.1=b.1:=by
  unfold partD at h
  injection h with h
  injection h with h _
  injection h with h
  injection h with h
  exact Array.mk.inj h
theorem left_or {L R:List Prt} {x:List Nat} {p:Prt} (h:partN (L++R) x=some p):(L.map partD).any (fun e=>eqD e (partD p))=(partN L x).isSome:=by
  unfold partN at h ⊢
  rw [List.find?_append] at h
  cases q:L.find? (fun p=>decide (p.1=x)) with
  | some r =>
    rw [q] at h
    cases h
    rw [Option.isSome_some,List.any_eq_true]
    exact ⟨_,List.mem_map_of_mem (List.mem_of_find?_eq_some q),eqD_iff.mpr rfl⟩
  | none =>
    rw [q] at h
    have h':R.find? (fun p=>decide (p.1=x))=some p:=h
    have hx:p.1=x:=of_decide_eq_true (List.find?_some (p:=fun p:Prt=>decide (p.1=x)) h')
    rw [Option.isSome_none,List.any_eq_false]
    intro e he z
    obtain ⟨r,hr,rfl⟩:=List.mem_map.mp he
    have:=part_inj (eqD_iff.mp z)
    exact List.find?_eq_none.mp q r hr (decide_eq_true (this.trans hx))
def spSideOf (K:PySem.W.Frag) (C:Addr):Sp:=fun vs H Q E=>∃ (v:V) (L R:List Prt) (ks:List Lnk) (al:Nms) (x:List Nat),vs=[v,mkT x]∧BookK K H v L R ks al∧L.length≤60∧R.length≤60∧x.length≤1000∧(∀ p∈L++R,p.2.2.length≤1000) ∧
  (∀ p,partN (L++R) x=some p→∀ (H':Hp),Same H H'→Q (.int (if (partN L x).isSome then 0 else 1)) H')∧(partN (L++R) x=none→Thrown C H E)
section
variable {P:Program} {w:World} {K:PySem.W.Frag} {mg:Str→Option Value} {base:Heap} {a_NoPart:Addr}
theorem scSideOf:FnScope ["book", "name"] ["book", "name"] (defScope sSideOf):=⟨rfl,rfl,rfl,by decide +kernel,rfl,by decide +kernel,by decide +kernel⟩
theorem c_side_of (h:Has K mg "side_of" sSideOf ["book", "name"]) (C_part_of:Cal1 P w K mg base "part_of" 1 ["book", "name"] (spPartOf K a_NoPart)):Cal1 P w K mg base "side_of" 2 ["book", "name"] (spSideOf K a_NoPart):=by
  refine h.mk1 scSideOf (fun vs H Q E hs=>?_) (fun f cdv A outer s H vs Q E hr hs=>?_)
  · obtain ⟨v,L,R,ks,al,x,rfl,_⟩:=hs
    rfl
  obtain ⟨v,L,R,ks,al,x,rfl,hv,hlL,hlR,hlx,hmo,k1,k2⟩:=hs
  refine ⟨_,(pss_one (ps_ret (pe_ifExp (pt_cmpR (op_inD hr.units) (pe_cal1 C_part_of hr (by decide) rfl passesO (pa_cons (pv 0) (pa_cons (pv 1) pa_nil))) (pe_ix ix_tup (pv 0) pe_int (fun _ _=>rfl)) (by with_unfolding_all rfl)) pe_int pe_int))),?_⟩
  refine ⟨_,rfl,_,rfl,v,L,R,ks,al,x,rfl,hv,hlL,hlR,hlx,fun p hp u H' s' d=>?_,fun z=>(k2 z).out⟩
  obtain ⟨pb,pl,pr,pk,pa,ls,rs,ws,rfl,hpb,hpl,hdl,hpr,hdr,hpk,hdk,hpa⟩:=hv
  have at0:atI [V.ref pl,V.ref pr,V.ref pk,V.ref pa] 0=some (.ref pl):=atI_zero _ _
  have hpm:p∈L++R:=List.mem_of_find?_eq_some hp
  refine ⟨_,rfl,pb,_,_,_,rfl,rfl,(stT s' hpb),at0,pl,ls,partD p,L.map partD,2,rfl,.inr (stT s' hpl),d,hdl.same s',(fun e he=>?_),⟨_,rfl⟩,shal_part (hmo p hpm),(fun e he=>?_),by decide,?_⟩
  · obtain ⟨r,_,rfl⟩:=List.mem_map.mp he
    exact ⟨_,rfl⟩
  · obtain ⟨r,hr,rfl⟩:=List.mem_map.mp he
    exact ⟨shal_part (hmo r (List.mem_append_left _ hr)),sim_part _ _⟩
  rw [left_or hp]
  have kk:=k1 p hp H' s'
  refine ⟨_,rfl,?_⟩
  cases hq:(partN L x).isSome with
  | true =>
    rw [hq] at kk
    exact kk
  | false =>
    rw [hq] at kk
    exact kk
end
def spNamesOf (K:PySem.W.Frag):Sp:=fun vs H Q _=>∃ (v:V) (L R:List Prt) (ks:List Lnk) (al:Nms),vs=[v]∧BookK K H v L R ks al∧L.length≤1000∧R.length≤1000∧∀ (q:Addr) (H':Hp),Same H H'→H' q=some (.tup (nmsOf (L++R)))→Q (.ref q) H'
section
variable {P:Program} {w:World} {K:PySem.W.Frag} {mg:Str→Option Value} {base:Heap}
theorem scNamesOf:FnScope ["book"] ["book"] (defScope sNamesOf):=⟨rfl,rfl,rfl,by decide +kernel,rfl,by decide +kernel,by decide +kernel⟩
theorem c_names_of (h:Has K mg "names_of" sNamesOf ["book"]) (m_tuple:mg "tuple" = none):Cal P w K mg base "names_of" 1 ["book"] (spNamesOf K):=by
  refine h.mk' scNamesOf (fun vs H Q E hs=>?_) (fun f cdv A outer s H vs Q E hr hs=>?_)
  · obtain ⟨v,L,R,ks,al,rfl,_⟩:=hs
    rfl
  obtain ⟨v,L,R,ks,al,rfl,hv,hl,hr',k⟩:=hs
  refine ⟨_,(pss_one (ps_ret (pe_callTy call_tuple_of rfl m_tuple boot_tuple (pa_cons (pe_compL ["book"] (defScope sNamesOf) ["part"] [none] rfl rfl rfl (pi_tup (pe_op op_catT3 (pe_ix ix_tup (pv 0) pe_int (fun _ _=>rfl)) (pe_ix ix_tup (pv 0) pe_int (fun _ _=>rfl)))) rfl (by decide +kernel) (by decide +kernel) (by decide +kernel) (by decide +kernel) (hg:=fun cl C s H ex pn E=>(pg_name (i:=0) (by decide +kernel:(["part"]:List Str).Nodup) rfl (Or.inl rfl))) (ht:=fun cl C s H ex pn E=>pifs_nil) (he:=fun cl C s H ex pn E=>(pe_ix (ix_tupK (K:=K) rfl) (pv 0) pe_int (fun _ _=>rfl)))) pa_nil)))),?_⟩
  obtain ⟨p,pl,pr,pk,pa,ls,rs,us,rfl,hp,hpl,hdl,hpr,hdr,_⟩:=hv
  have l1:=hdl.len
  have l2:=hdr.len
  rw [List.length_map] at l1 l2
  refine ⟨_,rfl,p,_,_,_,rfl,rfl,hp,atI_zero _ _,_,rfl,p,_,_,_,rfl,rfl,hp,atI_nat (xs:=[V.ref pl,V.ref pr,V.ref pk,V.ref pa]) (j:=1) rfl,?_⟩
  refine ⟨pl,pr,_,_,rfl,rfl,hpl,hpr,Nat.le_trans (show _≤1000000 by omega) sizeLine_big,fun q2 H2 s2 e2=>?_⟩
  have dA:DenL H2 (ls++rs) ((L++R).map partD):=by
    rw [List.map_append]
    exact denl_app (hdl.same s2) (hdr.same s2)
  generalize ls++rs=us at e2 dA
  generalize hLR:L++R=qs at dA k
  have hql:qs.length≤2000:=by rw [← hLR,List.length_append]; omega
  have hul:=dA.len
  rw [List.length_map] at hul
  refine ⟨q2,rfl,⟨_,e2⟩,fun lc hlc=>?_⟩
  refine comp_by (J:=Itt K q2) (l:=lc) us.length (fun i σ' H'=>∃ (v:Option V),σ'=[v]∧Same H2 H'∧H' lc=some (.lst (nmsOf (qs.take i)))) ⟨none,rfl,same_new hlc _,upd_same⟩ ?_ ?_
  · rintro σ' H' ⟨v,rfl,hs,hl'⟩
    rw [hul,List.take_length] at hl'
    refine ⟨⟨_,(stT hs e2),Nat.le_refl _⟩,lc,_,rfl,.inl ⟨SqL.of hl',fun q3 hq3=>?_⟩⟩
    exact k q3 _ ((s2.trans hs).trans (same_new hq3 _)) upd_same
  · rintro i σ' H' hi ⟨v,rfl,hs,hl'⟩
    have hat:us[i]?=some us[i]:=List.getElem?_eq_getElem hi
    refine ⟨⟨_,_,(stT hs e2),hat⟩,?_⟩
    rintro y H'' ⟨rfl,hy⟩
    have ey:y=us[i]:=Option.some.inj ((hy _ ((stT hs e2))).symm.trans hat)
    have hni:i < qs.length:=by omega
    obtain ⟨dd,hdd,dy⟩:=dA.at_ hat
    rw [← ey] at dy
    rw [List.getElem?_map,List.getElem?_eq_getElem hni] at hdd
    have edd:partD qs[i]=dd:=Option.some.inj hdd
    subst edd
    obtain ⟨b,bs,rfl,hb,hbd⟩:=den_tup (dy.same hs)
    obtain ⟨c0,cs,rfl⟩:∃ c0 cs,bs=c0 :: cs:=by
      cases bs with
      | nil=>exact hbd.elim
      | cons c0 cs=>exact ⟨c0,cs,rfl⟩
    have ec:c0=mkT qs[i].1:=hbd.1
    subst ec
    refine gN (yesT (iteT ?_))
    refine ⟨_,rfl,b,_,_,_,rfl,rfl,SqT.of hb,atI_zero _ _,_,hl',?_,_,rfl,?_,?_⟩
    · rw [nmsOf,List.length_map,List.length_take]
      exact Nat.lt_of_lt_of_le (show min i qs.length < 1000000 by omega) sizeLine_big
    · intro c o z
      have hlH:H2 lc=none:=hlc
      rw [upd_ne (ne_of_none z hlH)]
      exact hs c o z
    · rw [upd_same,List.take_add_one,List.getElem?_eq_getElem hni,nmsOf,nmsOf,List.map_append]
      rfl
end
theorem mkT_inj' {a b:List Nat} (h:mkT a=mkT b):a=b:=by
  injection h with h
  injection h with h
  exact Array.mk.inj h
theorem ez_t (a b:List Nat):decide (mkT a=mkT b)=decide (a=b):=by
  by_cases h:a=b
  · subst h; simp
  · rw [decide_eq_false h]
    exact decide_eq_false fun z=>h (mkT_inj' z)
theorem cutU {xs:List V} {r:Nat} (h:r≤xs.length):cutV xs none (some (r:Int))=xs.take r:=by
  unfold cutV
  rw [HT.sIx_nat,HT.sIx_none,Nat.min_eq_left h]
  simp
theorem cutF {xs:List V} {r:Nat} (h:r≤xs.length):cutV xs (some (r:Int)) none=xs.drop r:=by
  unfold cutV
  rw [HT.sIx_nat,HT.sIx_none,Nat.min_eq_left h]
  exact List.take_of_length_le (by rw [List.length_drop]; omega)
theorem set_cut (xs:List V) (n:Nat) (t:V) (h:n < xs.length):xs.take n++[t]++xs.drop (n+1)=xs.set n t:=by
  rw [List.set_eq_take_append_cons_drop,if_pos h,List.append_assoc]
  rfl
def spHasPart (K:PySem.W.Frag):Sp:=fun vs H Q _=>∃ (v:V) (L R:List Prt) (ks:List Lnk) (al:Nms) (x:List Nat),vs=[v,mkT x]∧BookK K H v L R ks al∧L.length≤60∧R.length≤60∧∀ H',Same H H'→Q (.bl (partN (L++R) x).isSome) H'
def spReplaced:Sp:=fun vs H Q _=>∃ (p:Addr) (us:List V) (n:Nat) (t:V),vs=[.ref p,.int (n:Nat),t]∧H p=some (.tup us)∧n < us.length∧us.length≤900∧∀ (q:Addr) (H':Hp),Same H H'→H' q=some (.tup (us.set n t))→Q (.ref q) H'
def outP (L:List Prt) (x:List Nat):List Prt:=L.filter fun p=>decide (p.1≠x)
def spWithout:Sp:=fun vs H Q _=>∃ (p:Addr) (us:List V) (L:List Prt) (x:List Nat),vs=[.ref p,mkT x]∧H p=some (.tup us)∧DenL H us (L.map partD)∧L.length≤900∧∀ (q:Addr) (ws:List V) (H':Hp),Same H H'→H' q=some (.tup ws)→DenL H' ws ((outP L x).map partD)→Q (.ref q) H'
def plc (L:List Prt) (b:List Nat):Nat:=if b=[] then 0 else (L.findIdx fun p=>decide (p.1=b))+1
def insP (L:List Prt) (b:List Nat) (q:Prt):List Prt:=L.take (plc L b)++q :: L.drop (plc L b)
def spWith:Sp:=fun vs H Q _=>∃ (p:Addr) (us:List V) (L:List Prt) (b:List Nat) (t:V) (q:Prt),vs=[.ref p,mkT b,t]∧H p=some (.tup us)∧DenL H us (L.map partD)∧L.length≤900∧Den H t (partD q)∧(b=[]∨b∈L.map (·.1)) ∧
  ∀ (r:Addr) (ws:List V) (H':Hp),Same H H'→H' r=some (.tup ws)→DenL H' ws ((insP L b q).map partD)→Q (.ref r) H'
def sideP (L:List Prt) (x:List Nat):Nat:=if (partN L x).isSome then 0 else 1
def spBehind (K:PySem.W.Frag) (C C2:Addr):Sp:=fun vs H Q E=>∃ (v:V) (L R:List Prt) (ks:List Lnk) (al:Nms) (n:Nat) (b:List Nat),vs=[v,.int (n:Nat),mkT b]∧BookK K H v L R ks al∧L.length≤60∧R.length≤60∧b.length≤1000∧(∀ p∈L++R,p.2.2.length≤1000) ∧
  ((b=[]∨(partN (L++R) b).isSome=true∧sideP L b=n)→∀ H',Same H H'→Q .non H')∧(b≠[]→partN (L++R) b=none→Thrown C H E)∧(b≠[]→(partN (L++R) b).isSome=true→sideP L b≠n→Thrown C2 H E)
def spNew (K:PySem.W.Frag) (C:Addr):Sp:=fun vs H Q E=>∃ (v:V) (L R:List Prt) (ks:List Lnk) (al:Nms) (x:List Nat),vs=[v,mkT x]∧BookK K H v L R ks al∧L.length≤60∧R.length≤60∧x.length≤1000 ∧
  ((partN (L++R) x)=none→∀ H',Same H H'→Q .non H')∧((partN (L++R) x).isSome=true→Thrown C H E)
theorem in_nms (x:List Nat) (xs:Nms):inV (mkT x) (xs.map mkT)=decide (x∈xs):=by
  have e:xs.map mkT=(xs.map fun x=>(⟨x.toArray⟩:Str)).map V.str:=by rw [List.map_map]; rfl
  rw [e,inV_str,Bool.eq_iff_iff,decide_eq_true_eq,decide_eq_true_eq]
  constructor
  · intro h
    obtain ⟨y,hy,e⟩:=List.mem_map.mp h
    have:y=x:=by injection e with e; exact Array.mk.inj e
    rw [← this]; exact hy
  · exact fun h=>List.mem_map.mpr ⟨x,h,rfl⟩
theorem flat_nms (xs:Nms):(xs.map mkT).all flatV=true:=by
  rw [List.all_eq_true]
  intro v hv
  obtain ⟨x,_,rfl⟩:=List.mem_map.mp hv
  rfl
theorem nms_eq (L:List Prt):nmsOf L=(L.map (·.1)).map mkT:=by
  unfold nmsOf
  rw [List.map_map]
  rfl
theorem partN_mem {L:List Prt} {x:List Nat}:(partN L x).isSome=decide (x∈L.map (·.1)):=by
  unfold partN
  rw [Bool.eq_iff_iff,List.find?_isSome,decide_eq_true_eq,List.mem_map]
  exact ⟨fun ⟨p,h1,h2⟩=>⟨p,h1,of_decide_eq_true h2⟩,fun ⟨p,h1,h2⟩=>⟨p,h1,decide_eq_true h2⟩⟩
theorem find_lt {L:List Prt} {b:List Nat} (h:b∈L.map (·.1)):∃ hj:(L.findIdx fun p=>decide (p.1=b)) < L.length,L[L.findIdx fun p=>decide (p.1=b)].1=b∧∀ (i:Nat) (hi:i < L.length),i < (L.findIdx fun p=>decide (p.1=b))→L[i].1≠b:=by
  obtain ⟨p,hp,e⟩:=List.mem_map.mp h
  have hj:(L.findIdx fun p=>decide (p.1=b)) < L.length:=List.findIdx_lt_length_of_exists ⟨p,hp,decide_eq_true e⟩
  exact ⟨hj,of_decide_eq_true (List.findIdx_getElem (w:=hj)),fun i hi hlt z=>(by have:=List.not_of_lt_findIdx hlt; rw [z] at this; simp at this)⟩
theorem plc_le {L:List Prt} {b:List Nat} (h:b=[]∨b∈L.map (·.1)):plc L b≤L.length:=by
  unfold plc
  split
  · exact Nat.zero_le _
  · rename_i hb
    obtain ⟨hj,_⟩:=find_lt (h.resolve_left hb)
    omega
theorem denl_take {H:Hp}:∀ (n:Nat) {us:List V} {ds:List D},DenL H us ds→DenL H (us.take n) (ds.take n)
  | 0,_,_,_=>trivial
  | n+1,[],[],_=>trivial
  | n+1,_ :: _,_ :: _,h=>⟨h.1,denl_take n h.2⟩
  | n+1,[],_ :: _,h=>h.elim
  | n+1,_ :: _,[],h=>h.elim
theorem denl_drop {H:Hp}:∀ (n:Nat) {us:List V} {ds:List D},DenL H us ds→DenL H (us.drop n) (ds.drop n)
  | 0,_,_,h=>h
  | n+1,[],[],_=>trivial
  | n+1,_ :: _,_ :: _,h=>denl_drop n h.2
  | n+1,[],_ :: _,h=>h.elim
  | n+1,_ :: _,[],h=>h.elim
theorem eqV_t (a b:List Nat):eqV (mkT a) (mkT b)=decide (a=b):=by
  show ((⟨a.toArray⟩:Str) == ⟨b.toArray⟩)=_
  by_cases h:a=b
  · subst h; simp
  · rw [decide_eq_false h]
    exact beq_eq_false_iff_ne.mpr fun z=>h (by injection z with z; exact Array.mk.inj z)
theorem tlen (x:List Nat):(⟨x.toArray⟩:Str).length=x.length:=by
  show x.toArray.size=_
  rw [List.size_toArray]
theorem line_le {n:Nat} (h:n≤10000):n≤sizeLine:=Nat.le_trans (show n≤1000000 by omega) sizeLine_big
theorem elen:Str.empty.length=0:=rfl
theorem pre_le {c:String} {x:List Nat} (hx:x.length≤1000) (hc:(Str.ofString c).length≤100):((Str.empty++Str.ofString c)++(⟨x.toArray⟩:Str)).length≤sizeLine:=by
  rw [strLen_append,strLen_append]
  have h1:=tlen x
  have h2:=elen
  exact line_le (by omega)
theorem suf_le {c:String} {x:List Nat} (hx:x.length≤1000) (hc:(Str.ofString c).length≤100):((Str.empty++(⟨x.toArray⟩:Str))++Str.ofString c).length≤sizeLine:=by
  rw [strLen_append,strLen_append]
  have h1:=tlen x
  have h2:=elen
  exact line_le (by omega)
section
variable {P:Program} {w:World} {K:PySem.W.Frag} {mg:Str→Option Value} {base:Heap} {a_NoPart a_NoPlace a_Twice:Addr}
theorem scHasPart:FnScope ["book", "name"] ["book", "name"] (defScope sHasPart):=⟨rfl,rfl,rfl,by decide +kernel,rfl,by decide +kernel,by decide +kernel⟩
theorem c_has_part (h:Has K mg "has_part" sHasPart ["book", "name"]) (C_names_of:Cal P w K mg base "names_of" 1 ["book"] (spNamesOf K)):Cal P w K mg base "has_part" 2 ["book", "name"] (spHasPart K):=by
  refine h.mk' scHasPart (fun vs H Q E hs=>?_) (fun f cdv A outer s H vs Q E hr hs=>?_)
  · obtain ⟨v,L,R,ks,al,x,rfl,_⟩:=hs
    rfl
  obtain ⟨v,L,R,ks,al,x,rfl,hv,h1,h2,k⟩:=hs
  refine ⟨_,(pss_one (ps_ret (pe_cmpR op_in_seq (pv 1) (pe_cal C_names_of hr (by decide) rfl (pa_cons (pv 0) pa_nil)) (by with_unfolding_all rfl)))),?_⟩
  refine ⟨_,rfl,_,rfl,v,L,R,ks,al,rfl,hv,by omega,by omega,fun q H1 s1 e1=>?_⟩
  refine ⟨q,_,rfl,.inr (SqT.of e1),rfl,by rw [nms_eq]; exact flat_nms _,?_⟩
  rw [show (if false=true then !inV (mkT x) (nmsOf (L++R)) else inV (mkT x) (nmsOf (L++R)))=inV (mkT x) (nmsOf (L++R)) from rfl,nms_eq,in_nms,← partN_mem]
  exact k H1 s1
theorem scReplaced:FnScope ["row", "place", "thing"] ["row", "place", "thing"] (defScope sReplaced):=⟨rfl,rfl,rfl,by decide +kernel,rfl,by decide +kernel,by decide +kernel⟩
theorem c_replaced (h:Has K mg "replaced" sReplaced ["row", "place", "thing"])  : Cal P w K mg base "replaced" 1 ["row", "place", "thing"] spReplaced:=by
  refine h.mk' scReplaced (fun vs H Q E hs=>?_) (fun f cdv A outer s H vs Q E hr hs=>?_)
  · obtain ⟨p,us,n,t,rfl,_⟩:=hs
    rfl
  obtain ⟨p,us,n,t,rfl,hp,hn,hl,k⟩:=hs
  refine ⟨_,(pss_one (ps_ret (pe_op op_catT2 (pe_op op_catT2 (pe_slice sl_tupW (pv 0) po_none (po_some (pv 1))) (pe_tup (pa_cons (pv 2) pa_nil))) (pe_slice sl_tupW (pv 0) (po_some (pe_op op_add (pv 1) pe_int)) po_none)))),?_⟩
  refine ⟨_,rfl,_,rfl,_,rfl,p,us,rfl,hp,fun p1 H1 s1 e1=>?_⟩
  rw [cutU (by omega)] at e1
  refine ⟨_,rfl,smn 1,fun p2 hp2=>?_⟩
  have s2:=same_new hp2 (.tup [t])
  have e2:(upd H1 p2 (.tup [t])) p2=some (.tup [t]):=upd_same
  generalize upd H1 p2 (.tup [t])=H2 at s2 e2 ⊢
  refine ⟨p1,p2,_,_,rfl,rfl,s2 _ _ e1,e2,small (by rw [List.length_take]; show _+1≤1000; omega),fun p3 H3 s3 e3=>?_⟩
  have s13:=(s1.trans s2).trans s3
  refine ⟨_,rfl,_,rfl,_,_,rfl,rfl,_,rfl,p,us,rfl,s13 _ _ hp,fun p4 H4 s4 e4=>?_⟩
  have e4':H4 p4=some (.tup (us.drop (n+1))):=by
    have e:cutV us (some (((n:Nat):Int)+1)) none=us.drop (n+1):=cutF (r:=n+1) (by omega)
    rw [← e]
    exact e4
  refine ⟨p3,p4,_,_,rfl,rfl,s4 _ _ e3,e4',small (by rw [List.length_append,List.length_take,List.length_drop]; show _+1+_≤1000; omega),fun p5 H5 s5 e5=>?_⟩
  rw [set_cut _ _ _ hn] at e5
  exact k p5 H5 ((s13.trans s4).trans s5) e5
theorem scPartsWithout:FnScope ["parts", "name"] ["parts", "name"] (defScope sPartsWithout):=⟨rfl,rfl,rfl,by decide +kernel,rfl,by decide +kernel,by decide +kernel⟩
theorem c_parts_without (h:Has K mg "parts_without" sPartsWithout ["parts", "name"]) (m_tuple:mg "tuple" = none):Cal P w K mg base "parts_without" 1 ["parts", "name"] spWithout:=by
  refine h.mk' scPartsWithout (fun vs H Q E hs=>?_) (fun f cdv A outer s H vs Q E hr hs=>?_)
  · obtain ⟨p,us,L,x,rfl,_⟩:=hs
    rfl
  obtain ⟨p,us,L,x,rfl,hp,hd,hl,k⟩:=hs
  refine ⟨_,(pss_one (ps_ret (pe_callTy call_tuple_of rfl m_tuple boot_tuple (pa_cons (pe_compL ["parts", "name"] (defScope sPartsWithout) ["name", "part"] [some 1,none] rfl rfl rfl (pi_tup (pv 0)) rfl (by decide +kernel) (by decide +kernel) (by decide +kernel) (by decide +kernel) (hg:=fun cl C s H ex pn E=>(pg_name (i:=1) (by decide +kernel:(["name", "part"]:List Str).Nodup) rfl (Or.inl rfl))) (ht:=fun cl C s H ex pn E=>(pifs_one (pt_cmpR op_ne (pe_ix (ix_tupK (K:=K) rfl) (pv 1) pe_int (fun _ _=>rfl)) (pv 0) (nomark _)))) (he:=fun cl C s H ex pn E=>(pv 1))) pa_nil)))),?_⟩
  have hul:=hd.len
  rw [List.length_map] at hul
  refine ⟨_,rfl,p,rfl,⟨_,SqT.of hp⟩,fun lc hlc=>?_⟩
  refine comp_byH (J:=Itt K p) (l:=lc) us.length (fun i σ' H'=>∃ (v:Option V) (ws:List V),σ'=[some (mkT x),v]∧Same H H'∧H' lc=some (.lst ws)∧ws.length≤i∧DenL H' ws ((outP (L.take i) x).map partD)) ⟨none,[],rfl,same_new hlc _,upd_same,Nat.le_refl _,trivial⟩ ?_ ?_
  · rintro σ' H' ⟨v,ws,rfl,s1,e1,hwl,d1⟩
    rw [hul,List.take_length] at d1
    refine ⟨⟨_,SqT.of (s1 _ _ hp),Nat.le_refl _⟩,lc,_,rfl,.inl ⟨SqL.of e1,fun q hq=>?_⟩⟩
    exact k q ws _ (s1.trans (same_new hq _)) upd_same (d1.same (same_new hq _))
  · rintro i σ' H' hi ⟨v,ws,rfl,s1,e1,hwl,d1⟩
    have hil:i < L.length:=by omega
    refine ⟨⟨_,_,SqT.of (s1 _ _ hp),ex_at hi⟩,?_⟩
    rintro N hN y H'' ⟨rfl,hy⟩
    have ey:y=us[i]:=Option.some.inj ((hy _ (SqT.of (s1 _ _ hp))).symm.trans (ex_at hi))
    have dy:Den H us[i] (partD L[i]):=at_of hd (ex_at hi) (by rw [List.getElem?_map,ex_at hil]; rfl)
    have htk:=take_one (ex_at hil)
    rw [← ey] at dy
    generalize L[i]=q at dy htk
    obtain ⟨b,pm,rfl,hb,hpm⟩:=den_part (dy.same s1)
    refine gN ⟨_,rfl,b,_,_,_,rfl,rfl,SqT.of hb,atI_zero _ _,_,rfl,rfl,_,rfl,?_⟩
    refine ite2 (fun z=>?_) (fun z=>?_)
    · have hq:q.1≠x:=fun e=>by rw [e] at z; simp at z
      refine ⟨_,rfl,ws,e1,small1000 (by omega),hN _ _ ⟨_,ws++[.ref b],rfl,same_updN s1 hlc,upd_same,by rw [List.length_append,List.length_singleton]; omega,?_⟩⟩
      rw [htk]
      unfold outP
      rw [List.filter_append,List.filter_cons_of_pos (by simpa using hq),List.filter_nil,List.map_append]
      exact denl_app (d1.keepT (kt_of e1)) ⟨(dy.same s1).keepT (kt_of e1),trivial⟩
    · have hq:q.1=x:=by
        by_cases e:q.1=x
        · exact e
        · exact absurd (by rw [ez_t,decide_eq_false e]; rfl) z
      refine hN _ _ ⟨_,ws,rfl,s1,e1,by omega,?_⟩
      rw [htk]
      unfold outP
      rw [List.filter_append,List.filter_cons_of_neg (by simpa using hq),List.filter_nil,List.append_nil]
      exact d1
theorem scPartsWith:FnScope ["parts", "behind", "part", "place"] ["parts", "behind", "part"] (defScope sPartsWith):=⟨rfl,rfl,rfl,by decide +kernel,rfl,by decide +kernel,by decide +kernel⟩
theorem c_parts_with (h:Has K mg "parts_with" sPartsWith ["parts", "behind", "part"])  : Cal P w K mg base "parts_with" 1 ["parts", "behind", "part"] spWith:=by
  refine h.mk' scPartsWith (fun vs H Q E hs=>?_) (fun f cdv A outer s H vs Q E hr hs=>?_)
  · obtain ⟨p,us,L,b,t,q,rfl,_⟩:=hs
    rfl
  obtain ⟨p,us,L,b,t,q,rfl,hp,hd,hl,ht,hb,k⟩:=hs
  refine ⟨_,(pss_cons (ps_set (i:=3) scPartsWith.nd rfl (Or.inl rfl) pe_int)
    (pss_cons (ps_if (pt_cmpR op_ne (pv 1) pe_str (nomark _))
      (pss_one (ps_set (i:=3) scPartsWith.nd rfl (Or.inl rfl) (pe_op op_add (pe_bm PySem.F.plainAttrs_list PySem.F.slot_list_index PySem.F.type_list_index mt_indexL (pe_compL ["parts", "behind", "part", "place"] (defScope sPartsWith) ["each"] [none] rfl rfl rfl (pi_tup (pv 0)) rfl (by decide +kernel) (by decide +kernel) (by decide +kernel) (by decide +kernel) (hg:=fun cl C s H ex pn E=>(pg_name (i:=0) (by decide +kernel:(["each"]:List Str).Nodup) rfl (Or.inl rfl))) (ht:=fun cl C s H ex pn E=>pifs_nil) (he:=fun cl C s H ex pn E=>(pe_ix (ix_tupK (K:=K) rfl) (pv 0) pe_int (fun _ _=>rfl)))) (pa_cons (pv 1) pa_nil)) pe_int)))
      pss_nil)
    (pss_one (ps_ret (pe_op op_catT2 (pe_op op_catT2 (pe_slice sl_tupW (pv 0) po_none (po_some (pv 3))) (pe_tup (pa_cons (pv 2) pa_nil))) (pe_slice sl_tupW (pv 0) (po_some (pv 3)) po_none)))))),?_⟩
  have hul:=hd.len
  rw [List.length_map] at hul
  have hpl:=plc_le hb
  refine gN ?_
  refine nxP (fun σ H'=>σ=[some (.ref p),some (mkT b),some t,some (.int (plc L b:Nat))]∧Same H H') (fun N hN=>?_) ?_
  · refine ⟨_,rfl,rfl,_,rfl,?_⟩
    refine ite2 (fun z=>?_) (fun z=>?_)
    · have hb0:b≠[]:=fun e=>by rw [e] at z; exact absurd z (by decide +kernel)
      refine ⟨_,rfl,p,rfl,⟨_,SqT.of hp⟩,fun lc hlc=>?_⟩
      refine comp_byH (J:=Itt K p) (l:=lc) us.length (fun i σ' H'=>∃ v:Option V,σ'=[v]∧Same H H'∧H' lc=some (.lst (nmsOf (L.take i)))) ⟨none,rfl,same_new hlc _,upd_same⟩ ?_ ?_
      rotate_left
      · rintro i σ' H' hi ⟨v,rfl,s1,e1⟩
        have hil:i < L.length:=by omega
        refine ⟨⟨_,_,SqT.of (s1 _ _ hp),ex_at hi⟩,?_⟩
        rintro N2 hN2 y H'' ⟨rfl,hy⟩
        have ey:y=us[i]:=Option.some.inj ((hy _ (SqT.of (s1 _ _ hp))).symm.trans (ex_at hi))
        have dy:Den H us[i] (partD L[i]):=at_of hd (ex_at hi) (by rw [List.getElem?_map,ex_at hil]; rfl)
        have htk:=take_one (ex_at hil)
        rw [← ey] at dy
        generalize L[i]=r at dy htk
        obtain ⟨c,pm,rfl,hc,hpm⟩:=den_part (dy.same s1)
        refine gN (yesT (iteT ⟨_,rfl,c,_,_,_,rfl,rfl,SqT.of hc,atI_zero _ _,_,e1,small1000 (by unfold nmsOf; rw [List.length_map,List.length_take]; omega),hN2 _ _ ⟨_,rfl,same_updN s1 hlc,?_⟩⟩))
        rw [upd_same,htk]
        unfold nmsOf
        rw [List.map_append]
        rfl
      rintro σ' H1 ⟨v,rfl,s1,e1⟩
      rw [hul,List.take_length] at e1
      obtain ⟨hj,h1,h2⟩:=find_lt (hb.resolve_left hb0)
      have hpe:plc L b=(L.findIdx fun p=>decide (p.1=b))+1:=by
        unfold plc
        rw [if_neg hb0]
      generalize (L.findIdx fun p=>decide (p.1=b))=j at hj h1 h2 hpe
      have hat:(nmsOf L)[j]?=some (mkT L[j].1):=by
        unfold nmsOf
        rw [List.getElem?_map,ex_at hj]
        rfl
      refine ⟨⟨_,SqT.of (s1 _ _ hp),Nat.le_refl _⟩,.inl ⟨rfl,_,SqL.of e1⟩,_,rfl,lc,_,mkT b,_,j,rfl,rfl,e1,rfl,by rw [nms_eq]; exact flat_nms _,hat,by rw [eqV_t]; exact decide_eq_true h1,fun i z hi hz=>?_,_,_,rfl,rfl,hN _ _ ⟨?_,s1⟩⟩
      · unfold nmsOf at hz
        rw [List.getElem?_map,ex_at (show i < L.length by omega)] at hz
        rw [← Option.some.inj hz,eqV_t]
        exact decide_eq_false (h2 i (by omega) hi)
      · rw [hpe]
        rfl
    · have hb0:b=[]:=by
        by_cases e:b=[]
        · exact e
        · refine absurd ?_ z
          have:decide (mkT b=mkT [])=false:=by rw [ez_t]; exact decide_eq_false e
          show (!decide (mkT b=V.str (Str.ofString "")))=true
          have e2:V.str (Str.ofString "")=mkT []:=by decide +kernel
          rw [e2,this]
          rfl
      refine hN _ _ ⟨?_,Same.refl _⟩
      unfold plc
      rw [if_pos hb0]
      rfl
  rintro σ H1 ⟨rfl,s1⟩
  refine ⟨_,rfl,_,rfl,_,rfl,p,us,rfl,s1 _ _ hp,fun p1 H2 s2 e2=>?_⟩
  rw [cutU (by omega)] at e2
  refine ⟨_,rfl,smn 1,fun p2 hp2=>?_⟩
  have s3:=same_new hp2 (.tup [t])
  have e3:(upd H2 p2 (.tup [t])) p2=some (.tup [t]):=upd_same
  generalize upd H2 p2 (.tup [t])=H3 at s3 e3 ⊢
  refine ⟨p1,p2,_,_,rfl,rfl,s3 _ _ e2,e3,small (by rw [List.length_take]; show _+1≤1000; omega),fun p4 H4 s4 e4=>?_⟩
  have s14:=((s1.trans s2).trans s3).trans s4
  refine ⟨_,rfl,_,rfl,_,rfl,p,us,rfl,s14 _ _ hp,fun p5 H5 s5 e5=>?_⟩
  rw [cutF (by omega)] at e5
  refine ⟨p4,p5,_,_,rfl,rfl,s5 _ _ e4,e5,small (by rw [List.length_append,List.length_take,List.length_drop]; show _+1+_≤1000; omega),fun p6 H6 s6 e6=>?_⟩
  have s16:=(s14.trans s5).trans s6
  refine k p6 _ H6 s16 e6 ?_
  unfold insP
  rw [List.map_append,List.map_cons,List.map_take,List.map_drop,List.append_assoc]
  exact denl_app (denl_take _ (hd.same s16)) ⟨ht.same s16,denl_drop _ (hd.same s16)⟩
theorem scCheckBehind:FnScope ["book", "side", "behind"] ["book", "side", "behind"] (defScope sCheckBehind):=⟨rfl,rfl,rfl,by decide +kernel,rfl,by decide +kernel,by decide +kernel⟩
theorem c_check_behind (h:Has K mg "check_behind" sCheckBehind ["book", "side", "behind"]) (q_NoPlace:mg "NoPlace" = some (.ref a_NoPlace)) (x_NoPlace:PySem.W.excIn K a_NoPlace vBm "ValueError.__new__" = true) (C_side_of:Cal1 P w K mg base "side_of" 2 ["book", "name"] (spSideOf K a_NoPart)):Cal1 P w K mg base "check_behind" 3 ["book", "side", "behind"] (spBehind K a_NoPart a_NoPlace):=by
  refine h.mk1 scCheckBehind (fun vs H Q E hs=>?_) (fun f cdv A outer s H vs Q E hr hs=>?_)
  · obtain ⟨v,L,R,ks,al,n,b,rfl,_⟩:=hs
    rfl
  obtain ⟨v,L,R,ks,al,n,b,rfl,hv,h1,h2,hbl,hmo,k1,k2,k3⟩:=hs
  refine ⟨_,(pss_one (ps_if (PW.pt (pw_and (pt_cmpR op_ne (pv 2) pe_str (nomark _)) (pw_and1 (pt_cmpR op_ne (pe_cal1 C_side_of hr (by decide) rfl passesO (pa_cons (pv 0) (pa_cons (pv 2) pa_nil))) (pv 1) (nomark _)))))
      (pss_one (ps_raise rfl throws1 rfl q_NoPlace x_NoPlace (pa_cons (pe_fstr (pj_cons (pe_fmt (pv 2)) (pj_cons pe_str pj_nil))) pa_nil)))
      pss_nil)),?_⟩
  have hb1:(⟨b.toArray⟩:Str).length≤sizeLine:=by rw [tlen]; exact line_le (by omega)
  have hb2:(Str.empty++(⟨b.toArray⟩:Str)).length≤sizeLine:=by
    rw [strLen_append]
    have h1:=tlen b
    have h2:=elen
    exact line_le (by omega)
  have hb3:((Str.empty++(⟨b.toArray⟩:Str))++Str.ofString " is of the other side").length≤sizeLine:=suf_le hbl (by decide +kernel)
  have e0:V.str (Str.ofString "")=mkT []:=by decide +kernel
  refine ⟨_,rfl,rfl,_,rfl,?_⟩
  refine ite2 (fun z=>?_) (fun z=>?_)
  · have hb0:b≠[]:=fun e=>by rw [e] at z; exact absurd z (by decide +kernel)
    refine ⟨_,rfl,_,rfl,v,L,R,ks,al,b,rfl,hv,h1,h2,hbl,hmo,fun p hp H1 s1=>?_,fun z=>(k2 hb0 z).out⟩
    have hso:(partN (L++R) b).isSome=true:=by rw [hp]; rfl
    have hsi:((if (partN L b).isSome=true then (0:Int) else 1))=((sideP L b:Nat):Int):=by unfold sideP; split <;> rfl
    rw [hsi]
    refine ⟨_,rfl,rfl,_,rfl,?_⟩
    refine ite2 (fun z=>?_) (fun z=>?_)
    · have hne:sideP L b≠n:=fun e=>by rw [e] at z; simp at z
      refine ⟨_,rfl,.inl ⟨_,rfl,hb1,_,rfl,hb2,_,rfl,hb3,hb3,?_⟩⟩
      exact ⟨smn 1,fun e T he hT=>((k3 hb0 hso hne).up s1).made he hT⟩
    · have heq:sideP L b=n:=by
        by_cases e:sideP L b=n
        · exact e
        · refine absurd ?_ z
          have:decide (V.int ((sideP L b:Nat):Int)=V.int ((n:Nat):Int))=false:=decide_eq_false fun q=>e (by injection q with q; omega)
          rw [this]
          rfl
      exact k1 (.inr ⟨hso,heq⟩) H1 s1
  · have hb0:b=[]:=by
      by_cases e:b=[]
      · exact e
      · refine absurd ?_ z
        have:decide (mkT b=mkT [])=false:=by rw [ez_t]; exact decide_eq_false e
        show (!decide (mkT b=V.str (Str.ofString "")))=true
        rw [e0,this]
        rfl
    exact k1 (.inl hb0) H (Same.refl _)
theorem scCheckNew:FnScope ["book", "name"] ["book", "name"] (defScope sCheckNew):=⟨rfl,rfl,rfl,by decide +kernel,rfl,by decide +kernel,by decide +kernel⟩
theorem c_check_new (h:Has K mg "check_new" sCheckNew ["book", "name"]) (q_Twice:mg "Twice" = some (.ref a_Twice)) (x_Twice:PySem.W.excIn K a_Twice vBm "ValueError.__new__" = true) (C_has_part:Cal P w K mg base "has_part" 2 ["book", "name"] (spHasPart K)):Cal1 P w K mg base "check_new" 3 ["book", "name"] (spNew K a_Twice):=by
  refine h.mk1 scCheckNew (fun vs H Q E hs=>?_) (fun f cdv A outer s H vs Q E hr hs=>?_)
  · obtain ⟨v,L,R,ks,al,x,rfl,_⟩:=hs
    rfl
  obtain ⟨v,L,R,ks,al,x,rfl,hv,h1,h2,hx,k1,k2⟩:=hs
  refine ⟨_,(pss_one (ps_if (pt_val (pe_cal C_has_part hr (by decide) rfl (pa_cons (pv 0) (pa_cons (pv 1) pa_nil))))
      (pss_one (ps_raise rfl throws1 rfl q_Twice x_Twice (pa_cons (pe_fstr (pj_cons pe_str (pj_cons (pe_fmt (pv 1)) pj_nil))) pa_nil)))
      pss_nil)),?_⟩
  refine ⟨_,rfl,_,rfl,v,L,R,ks,al,x,rfl,hv,h1,h2,fun H1 s1=>?_⟩
  refine ⟨_,rfl,?_⟩
  refine ite2 (fun z=>?_) (fun z=>?_)
  · have hx1:(⟨x.toArray⟩:Str).length≤sizeLine:=by rw [tlen]; exact line_le (by omega)
    have hx2:((Str.empty++Str.ofString "there is a part ")++(⟨x.toArray⟩:Str)).length≤sizeLine:=pre_le hx (by decide +kernel)
    refine ⟨_,rfl,by decide +kernel,_,rfl,.inl ⟨_,rfl,hx1,_,rfl,hx2,hx2,?_⟩⟩
    exact ⟨smn 1,fun e T he hT=>((k2 z).up s1).made he hT⟩
  · exact k1 (by simpa using z) H1 s1
end
def sdP (n:Nat) (L R:List Prt):List Prt:=if n=0 then L else R
def placeE (L R:List Prt) (n:Nat) (b:List Nat):Option Nat:=if b=[] then none else if (partN (L++R) b).isSome=true then (if sideP L b=n then none else some 1) else some 0
def putE (L R:List Prt) (n:Nat) (b x:List Nat):Option Nat:=(placeE L R n b).or (if (partN (L++R) x).isSome=true then some 2 else none)
def moveE (L R:List Prt) (x b:List Nat):Option Nat:=if (partN (L++R) x).isSome=true then (placeE L R (sideP L x) b).or (if b=x then some 1 else none) else some 0
def withSide (n:Nat) (L R:List Prt) (M:List Prt):List Prt × List Prt:=if n=0 then (M,R) else (L,M)
theorem place_none {L R:List Prt} {n:Nat} {b:List Nat} (h:placeE L R n b=none):b=[]∨(partN (L++R) b).isSome=true∧sideP L b=n:=by
  unfold placeE at h
  split at h
  · exact .inl ‹_›
  · split at h
    · split at h
      · exact .inr ⟨‹_›,‹_›⟩
      · cases h
    · cases h
theorem place_ok {L R:List Prt} {n:Nat} {b:List Nat} (h:b=[]∨(partN (L++R) b).isSome=true∧sideP L b=n):placeE L R n b=none:=by
  unfold placeE
  rcases h with z | ⟨z1,z2⟩
  · rw [if_pos z]
  · by_cases e:b=[]
    · rw [if_pos e]
    · rw [if_neg e,if_pos z1,if_pos z2]
theorem place_0 {L R:List Prt} {n:Nat} {b:List Nat} (h0:b≠[]) (h:partN (L++R) b=none):placeE L R n b=some 0:=by
  unfold placeE
  rw [if_neg h0,h,if_neg (by simp)]
theorem place_1 {L R:List Prt} {n:Nat} {b:List Nat} (h0:b≠[]) (h:(partN (L++R) b).isSome=true) (hn:sideP L b≠n):placeE L R n b=some 1:=by
  unfold placeE
  rw [if_neg h0,if_pos h,if_neg hn]
theorem sideP_le (L:List Prt) (x:List Nat):sideP L x≤1:=by
  unfold sideP
  split <;> omega
theorem mem_side {L R:List Prt} {b:List Nat} (h:(partN (L++R) b).isSome=true):b∈(sdP (sideP L b) L R).map (·.1):=by
  rw [partN_mem,decide_eq_true_eq,List.map_append,List.mem_append] at h
  unfold sdP sideP
  rw [partN_mem]
  by_cases e:b∈L.map (·.1)
  · rw [if_pos (decide_eq_true e),if_pos rfl]
    exact e
  · rw [if_neg (by simpa using e)]
    exact h.resolve_left e
theorem side_den {H:Hp} {L R:List Prt} {ls rs:List V} {pl pr pk pa:Addr} {n:Nat} (hn:n≤1) (h1:H pl=some (.tup ls)) (d1:DenL H ls (L.map partD)) (h2:H pr=some (.tup rs)) (d2:DenL H rs (R.map partD)) :
    ∃ (p:Addr) (us:List V),atI [V.ref pl,V.ref pr,V.ref pk,V.ref pa] (n:Nat)=some (.ref p)∧H p=some (.tup us)∧DenL H us ((sdP n L R).map partD):=by
  match n,hn with
  | 0,_=>exact ⟨pl,ls,atI_zero _ _,h1,d1⟩
  | 1,_=>exact ⟨pr,rs,atI_nat (xs:=[V.ref pl,V.ref pr,V.ref pk,V.ref pa]) (j:=1) rfl,h2,d2⟩
theorem side_set {H:Hp} {q:Addr} {L R M:List Prt} {ks:List Lnk} {al:Nms} {ls rs us ws:List V} {pl pr pk pa p:Addr} {n:Nat} (hn:n≤1) (hq:H q=some (.tup ([V.ref pl,V.ref pr,V.ref pk,V.ref pa].set n (.ref p)))) (hp:H p=some (.tup ws)) (dp:DenL H ws (M.map partD))
    (h1:H pl=some (.tup ls)) (d1:DenL H ls (L.map partD)) (h2:H pr=some (.tup rs)) (d2:DenL H rs (R.map partD)) (h3:H pk=some (.tup us)) (d3:DenL H us (ks.map linkD)) (h4:H pa=some (.tup (al.map mkT))) :
    Den H (.ref q) (bookD (withSide n L R M).1 (withSide n L R M).2 ks al):=by
  match n,hn with
  | 0,_=>exact ⟨q,_,rfl,hq,⟨p,ws,rfl,hp,dp⟩,⟨pr,rs,rfl,h2,d2⟩,⟨pk,us,rfl,h3,d3⟩,⟨pa,_,rfl,h4,denS_of H al⟩,trivial⟩
  | 1,_=>exact ⟨q,_,rfl,hq,⟨pl,ls,rfl,h1,d1⟩,⟨p,ws,rfl,hp,dp⟩,⟨pk,us,rfl,h3,d3⟩,⟨pa,_,rfl,h4,denS_of H al⟩,trivial⟩
def WPUT:Str:=Str.ofString "put"
def WMOVE:Str:=Str.ofString "move"
def SmB (L R:List Prt):Prop:=L.length≤60∧R.length≤60∧∀ p∈L++R,p.2.2.length≤1000
def spPutD (C:Nat→Addr):Sp:=fun vs H Q E=>∃ (v:V) (pd:Addr) (t:Int) (n:Nat) (b x tx:List Nat) (L R:List Prt) (ks:List Lnk) (al:Nms),vs=[v,.ref pd]∧Den H v (bookD L R ks al)∧H pd=some (.tup [.str WPUT,.int t,.int (n:Nat),mkT b,mkT x,mkT tx])∧n≤1∧b.length≤1000∧x.length≤1000∧SmB L R ∧
  (putE L R n b x=none→∀ (u:V) (H':Hp),Same H H'→Den H' u (bookD (withSide n L R (insP (sdP n L R) b (x,tx,[t]))).1 (withSide n L R (insP (sdP n L R) b (x,tx,[t]))).2 ks al)→Q u H')∧(∀ e,putE L R n b x=some e→Thrown (C e) H E)
def spMoveD (C:Nat→Addr):Sp:=fun vs H Q E=>∃ (v:V) (pd:Addr) (t:Int) (b x:List Nat) (L R:List Prt) (ks:List Lnk) (al:Nms),vs=[v,.ref pd]∧Den H v (bookD L R ks al)∧H pd=some (.tup [.str WMOVE,.int t,mkT x,mkT b])∧b.length≤1000∧x.length≤1000∧SmB L R ∧
  (moveE L R x b=none→∀ (q:Prt),partN (L++R) x=some q→∀ (u:V) (H':Hp),Same H H'→Den H' u (bookD (withSide (sideP L x) L R (insP (outP (sdP (sideP L x) L R) x) b q)).1 (withSide (sideP L x) L R (insP (outP (sdP (sideP L x) L R) x) b q)).2 ks al)→Q u H')∧(∀ e,moveE L R x b=some e→Thrown (C e) H E)
def c3 (a b c:Addr):Nat→Addr
  | 0=>a
  | 1=>b
  | _=>c
def tab_DOERS:List (Str × Str):=[(Str.ofString "put",Str.ofString "put_done"),(Str.ofString "take",Str.ofString "take_done"),(Str.ofString "part",Str.ofString "part_done"),(Str.ofString "join",Str.ofString "join_done"),(Str.ofString "move",Str.ofString "move_done"),(Str.ofString "change",Str.ofString "change_done"),(Str.ofString "word",Str.ofString "word_done"),(Str.ofString "link",Str.ofString "link_done"),(Str.ofString "loose",Str.ofString "loose_done"),(Str.ofString "step",Str.ofString "step_done"),(Str.ofString "alone",Str.ofString "alone_done"),(Str.ofString "lack",Str.ofString "lack_done")]
def spDone (C:Nat→Addr):Sp:=fun vs H Q E=>spPutD C vs H Q E∨spMoveD C vs H Q E
theorem putD_out {C:Nat→Addr} {vs:List V} {H:Hp} {Q:VK} {E:XK} (h:spPutD C vs H Q E):spPutD C vs H Q (outX E):=by
  obtain ⟨v,pd,t,n,b,x,tx,L,R,ks,al,e,hv,hd,hn,hb,hx,hs,k1,k2⟩:=h
  exact ⟨v,pd,t,n,b,x,tx,L,R,ks,al,e,hv,hd,hn,hb,hx,hs,k1,fun e z=>(k2 e z).out⟩
theorem moveD_out {C:Nat→Addr} {vs:List V} {H:Hp} {Q:VK} {E:XK} (h:spMoveD C vs H Q E):spMoveD C vs H Q (outX E):=by
  obtain ⟨v,pd,t,b,x,L,R,ks,al,e,hv,hd,hb,hx,hs,k1,k2⟩:=h
  exact ⟨v,pd,t,b,x,L,R,ks,al,e,hv,hd,hb,hx,hs,k1,fun e z=>(k2 e z).out⟩
theorem done_in {C:Nat→Addr} {vs:List V} {H:Hp} {Q:VK} {E:XK} (h:spDone C vs H Q E):∃ (v:V) (pd:Addr) (k nm:Str) (ys:List V),vs=[v,.ref pd]∧H pd=some (.tup (.str k :: ys))∧KTD.datumAt k tab_DOERS=some nm∧(nm=Str.ofString "put_done"∧spPutD C vs H Q E∨nm=Str.ofString "move_done"∧spMoveD C vs H Q E):=by
  rcases h with h | h
  · have h0:=h
    obtain ⟨v,pd,t,n,b,x,tx,L,R,ks,al,e,hv,hd,_⟩:=h
    exact ⟨v,pd,WPUT,_,_,e,hd,by decide +kernel,.inl ⟨rfl,h0⟩⟩
  · have h0:=h
    obtain ⟨v,pd,t,b,x,L,R,ks,al,e,hv,hd,_⟩:=h
    exact ⟨v,pd,WMOVE,_,_,e,hd,by decide +kernel,.inr ⟨rfl,h0⟩⟩
section
variable {P:Program} {w:World} {K:PySem.W.Frag} {mg:Str→Option Value} {base:Heap} {a_NoPart a_NoPlace a_Twice:Addr}
theorem scPutDone:FnScope ["book", "deed", "side", "behind", "name", "part"] ["book", "deed"] (defScope sPutDone):=⟨rfl,rfl,rfl,by decide +kernel,rfl,by decide +kernel,by decide +kernel⟩
theorem c_put_done (h:Has K mg "put_done" sPutDone ["book", "deed"]) (C_check_behind:Cal1 P w K mg base "check_behind" 3 ["book", "side", "behind"] (spBehind K a_NoPart a_NoPlace)) (C_check_new:Cal1 P w K mg base "check_new" 3 ["book", "name"] (spNew K a_Twice)) (C_replaced:Cal P w K mg base "replaced" 1 ["row", "place", "thing"] spReplaced) (C_parts_with:Cal P w K mg base "parts_with" 1 ["parts", "behind", "part"] spWith):Cal1 P w K mg base "put_done" 4 ["book", "deed"] (spPutD (c3 a_NoPart a_NoPlace a_Twice)):=by
  refine h.mk1 scPutDone (fun vs H Q E hs=>?_) (fun f cdv A outer s H vs Q E hr hs=>?_)
  · obtain ⟨v,pd,t,n,b,x,tx,L,R,ks,al,rfl,_⟩:=hs
    rfl
  obtain ⟨v,pd,t,n,b,x,tx,L,R,ks,al,rfl,hv,hd,hn,hb,hx,⟨h1,h2,hmo⟩,k1,k2⟩:=hs
  refine ⟨_,(pss_cons (ps_set (i:=2) scPutDone.nd rfl (Or.inl rfl) (pe_ix ix_tup (pv 1) pe_int (fun _ _=>rfl)))
    (pss_cons (ps_set (i:=3) scPutDone.nd rfl (Or.inl rfl) (pe_ix ix_tup (pv 1) pe_int (fun _ _=>rfl)))
    (pss_cons (ps_set (i:=4) scPutDone.nd rfl (Or.inl rfl) (pe_ix ix_tup (pv 1) pe_int (fun _ _=>rfl)))
    (pss_cons (ps_expr (pe_cal1 C_check_behind hr (by decide) rfl passesO (pa_cons (pv 0) (pa_cons (pv 2) (pa_cons (pv 3) pa_nil)))))
    (pss_cons (ps_expr (pe_cal1 C_check_new hr (by decide) rfl passesO (pa_cons (pv 0) (pa_cons (pv 4) pa_nil))))
    (pss_cons (ps_set (i:=5) scPutDone.nd rfl (Or.inl rfl) (pe_tup (pa_cons (pv 4) (pa_cons (pe_ix ix_tup (pv 1) pe_int (fun _ _=>rfl)) (pa_cons (pe_tup (pa_cons (pe_ix ix_tup (pv 1) pe_int (fun _ _=>rfl)) pa_nil)) pa_nil)))))
    (pss_one (ps_ret (pe_cal C_replaced hr (by decide) rfl (pa_cons (pv 0) (pa_cons (pv 2) (pa_cons (pe_cal C_parts_with hr (by decide) rfl (pa_cons (pe_ix ix_tup (pv 0) (pv 2) (fun _ _=>rfl)) (pa_cons (pv 3) (pa_cons (pv 5) pa_nil)))) pa_nil)))))))))))),?_⟩
  have at_:∀ {j:Nat} {y:V},[V.str WPUT,.int t,.int (n:Nat),mkT b,mkT x,mkT tx][j]?=some y→atI [V.str WPUT,.int t,.int (n:Nat),mkT b,mkT x,mkT tx] (j:Nat)=some y:=fun h=>atI_nat h
  refine ⟨_,rfl,pd,_,_,_,rfl,rfl,SqT.of hd,at_ (j:=2) rfl,?_⟩
  refine ⟨_,rfl,pd,_,_,_,rfl,rfl,SqT.of hd,at_ (j:=3) rfl,?_⟩
  refine ⟨_,rfl,pd,_,_,_,rfl,rfl,SqT.of hd,at_ (j:=4) rfl,?_⟩
  refine ⟨_,rfl,_,rfl,_,rfl,v,L,R,ks,al,n,b,rfl,BookK.of hv,h1,h2,hb,hmo,fun hok H1 s1=>?_,fun e1 e2=>((k2 0 (by unfold putE; rw [place_0 e1 e2]; rfl))).out,fun e1 e2 e3=>((k2 1 (by unfold putE; rw [place_1 e1 e2 e3]; rfl))).out⟩
  have hpn:placeE L R n b=none:=place_ok hok
  have hv1:=hv.same s1
  refine ⟨_,rfl,_,rfl,v,L,R,ks,al,x,rfl,BookK.of hv1,h1,h2,hx,fun hnew H2 s2=>?_,fun z=>(((k2 2 (by unfold putE; rw [hpn,if_pos z]; rfl))).up s1).out⟩
  have hE:putE L R n b x=none:=by
    unfold putE
    rw [hpn,hnew]
    rfl
  have s12:=s1.trans s2
  have hd2:=s12 _ _ hd
  refine ⟨_,rfl,_,rfl,pd,_,_,_,rfl,rfl,SqT.of hd2,at_ (j:=5) rfl,_,rfl,pd,_,_,_,rfl,rfl,SqT.of hd2,at_ (j:=1) rfl,smn 1,fun p1 hp1=>⟨smn 3,fun p2 hp2=>?_⟩⟩
  have s3:=(same_new hp1 (.tup [.int t])).trans (same_new hp2 (.tup [mkT x,mkT tx,.ref p1]))
  have e3:(upd (upd H2 p1 (.tup [.int t])) p2 (.tup [mkT x,mkT tx,.ref p1])) p2=some (.tup [mkT x,mkT tx,.ref p1]):=upd_same
  have e31:(upd (upd H2 p1 (.tup [.int t])) p2 (.tup [mkT x,mkT tx,.ref p1])) p1=some (.tup [.int t]):=same_new hp2 _ _ _ upd_same
  generalize upd (upd H2 p1 (.tup [.int t])) p2 (.tup [mkT x,mkT tx,.ref p1])=H3 at s3 e3 e31 ⊢
  have s03:=s12.trans s3
  obtain ⟨p,pl,pr,pk,pa,ls,rs,us,rfl,a1,a2,a3,a4,a5,a6,a7,a8⟩:=den_book (hv.same s03)
  obtain ⟨pp,us',hat,hpp,dpp⟩:=side_den (pk:=pk) (pa:=pa) hn a2 a3 a4 a5
  have hls:(sdP n L R).length≤900:=by unfold sdP; split <;> omega
  have hin:b=[]∨b∈(sdP n L R).map (·.1):=hok.imp id fun ⟨z1,z2⟩=>by rw [← z2]; exact mem_side z1
  refine ⟨_,rfl,_,rfl,_,rfl,_,rfl,p,_,_,_,rfl,rfl,SqT.of a1,hat,_,rfl,_,rfl,pp,us',sdP n L R,b,.ref p2,(x,tx,[t]),rfl,hpp,dpp,hls,⟨p2,_,rfl,e3,rfl,rfl,⟨p1,_,rfl,e31,rfl,trivial⟩,trivial⟩,hin,fun r ws H4 s4 e4 d4=>?_⟩
  refine ⟨p,_,n,.ref r,rfl,s4 _ _ a1,by show n < 4; omega,by show 4≤900; omega,fun q H5 s5 e5=>?_⟩
  have s45:=s4.trans s5
  exact k1 hE (.ref q) H5 (s03.trans s45) (side_set hn e5 (s5 _ _ e4) (d4.same s5) (s45 _ _ a2) (a3.same s45) (s45 _ _ a4) (a5.same s45) (s45 _ _ a6) (a7.same s45) (s45 _ _ a8))
theorem scMoveDone:FnScope ["book", "deed", "name", "behind", "side", "parts"] ["book", "deed"] (defScope sMoveDone):=⟨rfl,rfl,rfl,by decide +kernel,rfl,by decide +kernel,by decide +kernel⟩
theorem c_move_done (h:Has K mg "move_done" sMoveDone ["book", "deed"]) (q_NoPlace:mg "NoPlace" = some (.ref a_NoPlace)) (x_NoPlace:PySem.W.excIn K a_NoPlace vBm "ValueError.__new__" = true) (C_side_of:Cal1 P w K mg base "side_of" 2 ["book", "name"] (spSideOf K a_NoPart)) (C_check_behind:Cal1 P w K mg base "check_behind" 3 ["book", "side", "behind"] (spBehind K a_NoPart a_NoPlace)) (C_parts_without:Cal P w K mg base "parts_without" 1 ["parts", "name"] spWithout) (C_replaced:Cal P w K mg base "replaced" 1 ["row", "place", "thing"] spReplaced) (C_parts_with:Cal P w K mg base "parts_with" 1 ["parts", "behind", "part"] spWith) (C_part_of:Cal1 P w K mg base "part_of" 1 ["book", "name"] (spPartOf K a_NoPart)):Cal1 P w K mg base "move_done" 4 ["book", "deed"] (spMoveD (c3 a_NoPart a_NoPlace a_Twice)):=by
  refine h.mk1 scMoveDone (fun vs H Q E hs=>?_) (fun f cdv A outer s H vs Q E hr hs=>?_)
  · obtain ⟨v,pd,t,b,x,L,R,ks,al,rfl,_⟩:=hs
    rfl
  obtain ⟨v,pd,t,b,x,L,R,ks,al,rfl,hv,hd,hb,hx,⟨h1,h2,hmo⟩,k1,k2⟩:=hs
  refine ⟨_,(pss_cons (ps_set (i:=2) scMoveDone.nd rfl (Or.inl rfl) (pe_ix ix_tup (pv 1) pe_int (fun _ _=>rfl)))
    (pss_cons (ps_set (i:=3) scMoveDone.nd rfl (Or.inl rfl) (pe_ix ix_tup (pv 1) pe_int (fun _ _=>rfl)))
    (pss_cons (ps_set (i:=4) scMoveDone.nd rfl (Or.inl rfl) (pe_cal1 C_side_of hr (by decide) rfl passesO (pa_cons (pv 0) (pa_cons (pv 2) pa_nil))))
    (pss_cons (ps_expr (pe_cal1 C_check_behind hr (by decide) rfl passesO (pa_cons (pv 0) (pa_cons (pv 4) (pa_cons (pv 3) pa_nil)))))
    (pss_cons (ps_if (pt_cmpR op_eq (pv 3) (pv 2) (nomark _))
      (pss_one (ps_raise rfl throws1 rfl q_NoPlace x_NoPlace (pa_cons (pe_fstr (pj_cons (pe_fmt (pv 2)) (pj_cons pe_str pj_nil))) pa_nil)))
      pss_nil)
    (pss_cons (ps_set (i:=5) scMoveDone.nd rfl (Or.inl rfl) (pe_cal C_parts_without hr (by decide) rfl (pa_cons (pe_ix ix_tup (pv 0) (pv 4) (fun _ _=>rfl)) (pa_cons (pv 2) pa_nil))))
    (pss_one (ps_ret (pe_cal C_replaced hr (by decide) rfl (pa_cons (pv 0) (pa_cons (pv 4) (pa_cons (pe_cal C_parts_with hr (by decide) rfl (pa_cons (pv 5) (pa_cons (pv 3) (pa_cons (pe_cal1 C_part_of hr (by decide) rfl passesO (pa_cons (pv 0) (pa_cons (pv 2) pa_nil))) pa_nil)))) pa_nil)))))))))))),?_⟩
  have at_:∀ {j:Nat} {y:V},[V.str WMOVE,.int t,mkT x,mkT b][j]?=some y→atI [V.str WMOVE,.int t,mkT x,mkT b] (j:Nat)=some y:=fun h=>atI_nat h
  refine ⟨_,rfl,pd,_,_,_,rfl,rfl,SqT.of hd,at_ (j:=2) rfl,?_⟩
  refine ⟨_,rfl,pd,_,_,_,rfl,rfl,SqT.of hd,at_ (j:=3) rfl,?_⟩
  refine ⟨_,rfl,_,rfl,v,L,R,ks,al,x,rfl,BookK.of hv,h1,h2,hx,hmo,fun p0 hp0 H1 s1=>?_,fun z=>(k2 0 (by unfold moveE; rw [z,if_neg (by simp)])).out⟩
  have hso:(partN (L++R) x).isSome=true:=by rw [hp0]; rfl
  have hsi:((if (partN L x).isSome=true then (0:Int) else 1))=((sideP L x:Nat):Int):=by unfold sideP; split <;> rfl
  rw [hsi]
  have hn:=sideP_le L x
  have hmE:moveE L R x b=(placeE L R (sideP L x) b).or (if b=x then some 1 else none):=by unfold moveE; rw [if_pos hso]
  generalize hsn:sideP L x=n at *
  have hv1:=hv.same s1
  refine ⟨_,rfl,_,rfl,_,rfl,v,L,R,ks,al,n,b,rfl,BookK.of hv1,h1,h2,hb,hmo,fun hok H2 s2=>?_,fun e1 e2=>((k2 0 (by rw [hmE,place_0 e1 e2]; rfl)).up s1).out,fun e1 e2 e3=>((k2 1 (by rw [hmE,place_1 e1 e2 e3]; rfl)).up s1).out⟩
  have hpn:placeE L R n b=none:=place_ok hok
  have s12:=s1.trans s2
  refine ⟨_,rfl,_,rfl,rfl,_,rfl,?_⟩
  refine ite2 (fun z=>?_) (fun z=>?_)
  · have e:b=x:=by rw [ez_t] at z; exact of_decide_eq_true z
    have hx1:(⟨x.toArray⟩:Str).length≤sizeLine:=by rw [tlen]; exact line_le (by omega)
    have hx2:(Str.empty++(⟨x.toArray⟩:Str)).length≤sizeLine:=by
      rw [strLen_append]
      have h1:=tlen x
      have h2:=elen
      exact line_le (by omega)
    have hx3:((Str.empty++(⟨x.toArray⟩:Str))++Str.ofString " can't go behind itself").length≤sizeLine:=suf_le hx (by decide +kernel)
    refine ⟨_,rfl,.inl ⟨_,rfl,hx1,_,rfl,hx2,_,rfl,hx3,hx3,?_⟩⟩
    exact ⟨smn 1,fun e' T he hT=>((k2 1 (by rw [hmE,hpn,if_pos e]; rfl)).up s12).made he hT⟩
  have hbx:b≠x:=fun e=>z (by rw [ez_t]; exact decide_eq_true e)
  have hE:moveE L R x b=none:=by rw [hmE,hpn,if_neg hbx]; rfl
  obtain ⟨p,pl,pr,pk,pa,ls,rs,us,rfl,a1,a2,a3,a4,a5,a6,a7,a8⟩:=den_book (hv.same s12)
  obtain ⟨pp,us',hat,hpp,dpp⟩:=side_den (pk:=pk) (pa:=pa) hn a2 a3 a4 a5
  have hls:(sdP n L R).length≤900:=by unfold sdP; split <;> omega
  refine ⟨_,rfl,_,rfl,p,_,_,_,rfl,rfl,SqT.of a1,hat,_,rfl,pp,us',sdP n L R,x,rfl,hpp,dpp,hls,fun q3 ws3 H3 s3 e3 d3=>?_⟩
  have hlo:(outP (sdP n L R) x).length≤900:=Nat.le_trans (List.length_filter_le _ _) hls
  have hin:b=[]∨b∈(outP (sdP n L R) x).map (·.1):=hok.imp id fun ⟨z1,z2⟩=>by
    have:=mem_side z1
    rw [z2] at this
    obtain ⟨r,hr,e⟩:=List.mem_map.mp this
    exact List.mem_map.mpr ⟨r,List.mem_filter.mpr ⟨hr,decide_eq_true (by rw [e]; exact hbx)⟩,e⟩
  refine ⟨_,rfl,_,rfl,_,rfl,_,rfl,_,rfl,_,rfl,.ref p,L,R,ks,al,x,rfl,BookK.of ((hv.same s12).same s3),h1,h2,hx,fun p4 hp4 u4 H4 s4 d4=>?_,fun z=>absurd hp0 (by rw [z]; simp)⟩
  have e4:=s4 _ _ e3
  have d34:=d3.same s4
  refine ⟨q3,ws3,outP (sdP n L R) x,b,u4,p4,rfl,e4,d34,hlo,d4,hin,fun r ws H5 s5 e5 d5=>?_⟩
  have s35:=(s3.trans s4).trans s5
  refine ⟨p,_,n,.ref r,rfl,s35 _ _ a1,by show n < 4; omega,by show 4≤900; omega,fun q H6 s6 e6=>?_⟩
  have s26:=s35.trans s6
  exact k1 hE p4 hp4 (.ref q) H6 (s12.trans s26) (side_set hn e6 (s6 _ _ e5) (d5.same s6) (s26 _ _ a2) (a3.same s26) (s26 _ _ a4) (a5.same s26) (s26 _ _ a6) (a7.same s26) (s26 _ _ a8))
theorem scDone:FnScope ["book", "deed", "doer"] ["book", "deed"] (defScope sDone):=⟨rfl,rfl,rfl,by decide +kernel,rfl,by decide +kernel,by decide +kernel⟩
theorem c_done (h:Has K mg "done" sDone ["book", "deed"]) {t_DOERS:Addr} (q_DOERS:mg "DOERS" = some (.ref t_DOERS)) (kt_DOERS:KFT K t_DOERS tab_DOERS) (hMK:MgK K mg) (C_put_done:Cal1 P w K mg base "put_done" 4 ["book", "deed"] (spPutD (c3 a_NoPart a_NoPlace a_Twice))) (C_move_done:Cal1 P w K mg base "move_done" 4 ["book", "deed"] (spMoveD (c3 a_NoPart a_NoPlace a_Twice))):Cal1 P w K mg base "done" 5 ["book", "deed"] (spDone (c3 a_NoPart a_NoPlace a_Twice)):=by
  refine h.mk1 scDone (fun vs H Q E hs=>?_) (fun f cdv A outer s H vs Q E hr hs=>?_)
  · obtain ⟨v,pd,k,nm,ys,rfl,_⟩:=done_in hs
    rfl
  obtain ⟨v,pd,kw,nm,ys,rfl,hd,hk,hc⟩:=done_in hs
  refine ⟨_,(pss_cons (ps_set (i:=2) scDone.nd rfl (Or.inl rfl) (pe_fget (pe_glob (v:=.ref t_DOERS) rfl q_DOERS rfl) (pe_ix ix_tup (pv 1) pe_int (fun _ _=>rfl)) (fun _ _=>rfl)))
    (pss_one (ps_ret (pe_calV hr (pv 2) passesO (pa_cons (pv 0) (pa_cons (pv 1) pa_nil)))))),?_⟩
  refine ⟨_,rfl,pd,_,_,_,rfl,rfl,SqT.of hd,atI_zero _ _,t_DOERS,tab_DOERS,kw,nm,rfl,rfl,kt_DOERS,hk,fun f' hf=>?_⟩
  have hm:=hMK _ _ hf
  rcases hc with ⟨rfl,hc⟩ | ⟨rfl,hc⟩
  · obtain ⟨f1,q1,F1⟩:=C_put_done.fn
    rw [hm] at q1
    cases q1
    exact ⟨f',_,_,_,rfl,F1,by decide,_,rfl,_,rfl,putD_out hc⟩
  · obtain ⟨f1,q1,F1⟩:=C_move_done.fn
    rw [hm] at q1
    cases q1
    exact ⟨f',_,_,_,rfl,F1,by decide,_,rfl,_,rfl,moveD_out hc⟩
end
def potK (lo:Addr) (l s m:Int):List (Key × V):=[(Sum.inr "own",.ref lo),(Sum.inr "left",.int l),(Sum.inr "seed",.int s),(Sum.inr "many",.int m)]
theorem kn1:¬ ((Sum.inr (Str.ofString "own"):Key)=Sum.inr (Str.ofString "left")):=by decide +kernel
theorem kn2:¬ ((Sum.inr (Str.ofString "own"):Key)=Sum.inr (Str.ofString "seed")):=by decide +kernel
theorem kn3:¬ ((Sum.inr (Str.ofString "own"):Key)=Sum.inr (Str.ofString "many")):=by decide +kernel
theorem kn4:¬ ((Sum.inr (Str.ofString "left"):Key)=Sum.inr (Str.ofString "seed")):=by decide +kernel
theorem kn5:¬ ((Sum.inr (Str.ofString "left"):Key)=Sum.inr (Str.ofString "many")):=by decide +kernel
theorem kn6:¬ ((Sum.inr (Str.ofString "seed"):Key)=Sum.inr (Str.ofString "many")):=by decide +kernel
theorem sn1:¬ (Str.ofString "own" = Str.ofString "left"):=by decide +kernel
theorem sm1:¬ (Str.ofString "left" = Str.ofString "own"):=by decide +kernel
theorem sn2:¬ (Str.ofString "own" = Str.ofString "seed"):=by decide +kernel
theorem sm2:¬ (Str.ofString "seed" = Str.ofString "own"):=by decide +kernel
theorem sn3:¬ (Str.ofString "own" = Str.ofString "many"):=by decide +kernel
theorem sm3:¬ (Str.ofString "many" = Str.ofString "own"):=by decide +kernel
theorem sn4:¬ (Str.ofString "left" = Str.ofString "seed"):=by decide +kernel
theorem sm4:¬ (Str.ofString "seed" = Str.ofString "left"):=by decide +kernel
theorem sn5:¬ (Str.ofString "left" = Str.ofString "many"):=by decide +kernel
theorem sm5:¬ (Str.ofString "many" = Str.ofString "left"):=by decide +kernel
theorem sn6:¬ (Str.ofString "seed" = Str.ofString "many"):=by decide +kernel
theorem sm6:¬ (Str.ofString "many" = Str.ofString "seed"):=by decide +kernel
theorem v_own (lo:Addr) (l s m:Int):valV (potK lo l s m) (Sum.inr "own" : Key)=some (.ref lo):=valV_pos rfl
theorem v_left (lo:Addr) (l s m:Int):valV (potK lo l s m) (Sum.inr "left" : Key)=some (.int l):=(valV_neg kn1).trans (valV_pos rfl)
theorem v_seed (lo:Addr) (l s m:Int):valV (potK lo l s m) (Sum.inr "seed" : Key)=some (.int s):=(valV_neg kn2).trans ((valV_neg kn4).trans (valV_pos rfl))
theorem v_many (lo:Addr) (l s m:Int):valV (potK lo l s m) (Sum.inr "many" : Key)=some (.int m):=(valV_neg kn3).trans ((valV_neg kn5).trans ((valV_neg kn6).trans (valV_pos rfl)))
theorem p_left (lo:Addr) (l s m i:Int):putK (potK lo l s m) (Sum.inr "left" : Key) (.int i)=potK lo i s m:=by
  unfold putK potK
  simp [sn1,sm1,sn2,sm2,sn3,sm3,sn4,sm4,sn5,sm5,sn6,sm6]
theorem p_seed (lo:Addr) (l s m i:Int):putK (potK lo l s m) (Sum.inr "seed" : Key) (.int i)=potK lo l i m:=by
  unfold putK potK
  simp [sn1,sm1,sn2,sm2,sn3,sm3,sn4,sm4,sn5,sm5,sn6,sm6]
theorem p_many (lo:Addr) (l s m i:Int):putK (potK lo l s m) (Sum.inr "many" : Key) (.int i)=potK lo l s i:=by
  unfold putK potK
  simp [sn1,sm1,sn2,sm2,sn3,sm3,sn4,sm4,sn5,sm5,sn6,sm6]
theorem merge_pot (lo:Addr) (l s m:Int):mergeK [] (potK lo l s m)=potK lo l s m:=by
  unfold potK
  simp [mergeK,putK,sn1,sm1,sn2,sm2,sn3,sm3,sn4,sm4,sn5,sm5,sn6,sm6]
def PotAt (d lo:Addr) (H:Hp):Prop:=∃ (cs:List Int) (l s m:Int),H d=some (.dK (potK lo l s m))∧H lo=some (.lst (cs.map V.int))∧0≤l∧∀ c∈cs,0≤c
def Old (d lo:Addr) (H H':Hp):Prop:=∀ c o,H c=some o→c≠d→c≠lo→H' c=some o
def spPot (K:PySem.W.Frag):Sp:=fun vs H Q _=>∃ (a:Addr) (ns:List Int),vs=[.ref a]∧SqL K H a (ns.map V.int)∧ns.length≤63∧∀ (d lo:Addr) (H':Hp),Same H H'→PotAt d lo H'→Q (.ref d) H'
def spNext:Sp:=fun vs H Q _=>∃ (d lo:Addr) (m:Int),vs=[.ref d,.int m]∧PotAt d lo H∧0 < m∧m < 2 ^ 63∧∀ (r:Int) (H':Hp),0≤r→r < m→PotAt d lo H'→Old d lo H H'→Q (.int r) H'
theorem g_own {H:Hp} {d lo:Addr} {l s m:Int} (h:H d=some (.dK (potK lo l s m))):DGet H d (.str "own") (some (.ref lo)):=by
  have:=DGet.k (k:=(Sum.inr "own" : Key)) h
  rwa [v_own] at this
theorem g_left {H:Hp} {d lo:Addr} {l s m:Int} (h:H d=some (.dK (potK lo l s m))):DGet H d (.str "left") (some (.int l)):=by
  have:=DGet.k (k:=(Sum.inr "left" : Key)) h
  rwa [v_left] at this
theorem g_seed {H:Hp} {d lo:Addr} {l s m:Int} (h:H d=some (.dK (potK lo l s m))):DGet H d (.str "seed") (some (.int s)):=by
  have:=DGet.k (k:=(Sum.inr "seed" : Key)) h
  rwa [v_seed] at this
theorem g_many {H:Hp} {d lo:Addr} {l s m:Int} (h:H d=some (.dK (potK lo l s m))):DGet H d (.str "many") (some (.int m)):=by
  have:=DGet.k (k:=(Sum.inr "many" : Key)) h
  rwa [v_many] at this
theorem u_left {H:Hp} {d lo:Addr} {l s m:Int} (i:Int) (h:H d=some (.dK (potK lo l s m))):DPut H d (.str "left") (.int i) (upd H d (.dK (potK lo i s m))):=by
  have:=DPut.k (k:=(Sum.inr "left" : Key)) (v:=.int i) h (small1000 (by show 4≤1000; decide))
  rwa [p_left] at this
theorem u_seed {H:Hp} {d lo:Addr} {l s m:Int} (i:Int) (h:H d=some (.dK (potK lo l s m))):DPut H d (.str "seed") (.int i) (upd H d (.dK (potK lo l i m))):=by
  have:=DPut.k (k:=(Sum.inr "seed" : Key)) (v:=.int i) h (small1000 (by show 4≤1000; decide))
  rwa [p_seed] at this
theorem u_many {H:Hp} {d lo:Addr} {l s m:Int} (i:Int) (h:H d=some (.dK (potK lo l s m))):DPut H d (.str "many") (.int i) (upd H d (.dK (potK lo l s i))):=by
  have:=DPut.k (k:=(Sum.inr "many" : Key)) (v:=.int i) h (small1000 (by show 4≤1000; decide))
  rwa [p_many] at this
theorem Old.upd_d {d lo:Addr} {H H':Hp} {o:HO} (h:Old d lo H H'):Old d lo H (upd H' d o):=fun c o' e h1 h2=>by
  rw [upd_ne h1]
  exact h c o' e h1 h2
theorem Old.upd_lo {d lo:Addr} {H H':Hp} {o:HO} (h:Old d lo H H'):Old d lo H (upd H' lo o):=fun c o' e h1 h2=>by
  rw [upd_ne h2]
  exact h c o' e h1 h2
theorem Old.new {d lo b:Addr} {H H':Hp} {o:HO} (h:Old d lo H H') (hb:H' b=none):Old d lo H (upd H' b o):=fun c o' e h1 h2=>same_new hb o _ _ (h c o' e h1 h2)
section
variable {P:Program} {w:World} {K:PySem.W.Frag} {mg:Str→Option Value} {base:Heap}
theorem scPot:FnScope ["_law_script", "_law_seed", "_law_own", "_law_cell"] ["_law_script"] (defScope sPot):=⟨rfl,rfl,rfl,by decide +kernel,rfl,by decide +kernel,by decide +kernel⟩
theorem c_pot (h:Has K mg "_law_pot" sPot ["_law_script"])  : Cal P w K mg base "_law_pot" 1 ["_law_script"] (spPot K):=by
  refine h.mk' scPot (fun vs H Q E hs=>?_) (fun f cdv A outer s H vs Q E hr hs=>?_)
  · obtain ⟨a,ns,rfl,_⟩:=hs
    rfl
  obtain ⟨a,ns,rfl,hS,h63,k⟩:=hs
  refine ⟨_,(pss_cons (ps_set (i:=1) scPot.nd rfl (Or.inl rfl) pe_int)
    (pss_cons (ps_set (i:=2) scPot.nd rfl (Or.inl rfl) (pe_lst pa_nil))
    (pss_cons (ps_for PassesOwn.never rfl (pi_list (pv 0)) (pg_name (i:=3) scPot.nd rfl (Or.inl rfl))
      (pss_cons (ps_set (i:=1) scPot.nd rfl (Or.inl rfl) (pe_op op_mod (pe_op op_add (pe_op op_add (pe_op op_mul (pv 1) pe_int) (pe_op op_mod (pv 3) pe_int)) pe_int) pe_int))
    (pss_one (ps_if (pt_cmpR op_ge (pv 3) (pe_op op_pow pe_int pe_int) (nomark _))
      (pss_one (ps_expr (pe_bm PySem.F.plainAttrs_list PySem.F.slot_list_append PySem.F.type_list_append mt_append (pv 2) (pa_cons (pv 3) pa_nil))))
      pss_nil))))
    (pss_one (ps_ret (pe_disp (pps_cons pe_str (pv 2) (pps_cons pe_str pe_int (pps_cons pe_str (pv 1) (pps_cons pe_str pe_int pps_nil)))) rfl rfl (by simp) (by decide +kernel))))))),?_⟩
  refine ⟨smn 0,fun lo hlo=>?_⟩
  have hloN:H lo=none:=hlo
  refine ⟨_,rfl,a,rfl,⟨_,(same_new hlo (.lst [])).seq hS⟩,?_⟩
  refine for_list (K:=K) (a:=a) (xs:=ns.map V.int) (fun i σ H2=>∃ (s:Int) (cs:List Int) (v3:Option V),σ=[some (.ref a),some (.int s),some (.ref lo),v3]∧H2=upd H lo (.lst (cs.map V.int))∧(∀ c∈cs,0≤c)∧cs.length≤i) ⟨11,[],none,rfl,rfl,(fun c h=>by cases h),Nat.le_refl _⟩ ?_ ?_ ?_
  · rintro i σ H2 _ ⟨s,cs,v3,rfl,rfl,_,_⟩
    exact (same_new hlo _).seq hS
  · rintro i y σ H2 hi ⟨s,cs,v3,rfl,rfl,hc,hl⟩
    obtain ⟨c,rfl⟩:=map_int_at hi
    have hi63:i < 63:=by
      have:=(List.getElem?_eq_some_iff.mp hi).1
      rw [List.length_map] at this
      omega
    refine ⟨_,rfl,_,_,rfl,rfl,.inr ⟨by decide,by decide⟩,_,rfl,_,_,rfl,rfl,(by show (0:Int) < 2147483629; decide),_,_,rfl,rfl,_,_,rfl,rfl,_,_,rfl,rfl,(by show (0:Int) < 2305843009213693951; decide),?_⟩
    refine ⟨_,rfl,_,_,rfl,rfl,⟨by decide,by decide,by decide⟩,_,_,rfl,rfl,_,rfl,?_⟩
    refine ite2 (fun z=>?_) (fun z=>?_)
    · have hc0:0≤c:=by
        have:=of_decide_eq_true z
        have e:(10:Int) ^ (18:Int).toNat=1000000000000000000:=by decide
        rw [e] at this
        omega
      refine ⟨_,rfl,.inl ⟨rfl,_,SqL.of upd_same⟩,_,rfl,lo,_,_,rfl,rfl,upd_same,by rw [List.length_map]; exact small1000 (by omega),_,cs++[c],_,rfl,?_,?_,?_⟩
      · rw [upd_upd,List.map_append]
        rfl
      · intro c' h'
        rcases List.mem_append.mp h' with z | z
        · exact hc c' z
        · rw [List.mem_singleton.mp z]
          exact hc0
      · rw [List.length_append,List.length_singleton]
        omega
    · exact ⟨_,cs,_,rfl,rfl,hc,by omega⟩
  · rintro σ H2 ⟨s,cs,v3,rfl,rfl,hc,hl⟩
    refine fun d hd=>⟨_,rfl,_,rfl,upd_same,potK lo 0 s 0,rfl,(by show 4≤15; decide),?_⟩
    have ndl:lo≠d:=ne_of_none upd_same hd
    rw [merge_pot,upd_upd]
    exact k d lo _ ((same_new hlo _).trans (same_new hd _)) ⟨cs,0,s,0,upd_same,(upd_ne ndl).trans upd_same,Int.le_refl _,hc⟩
theorem scNext:FnScope ["_law_pot_here", "_law_many", "_law_drawn", "_law_mixed"] ["_law_pot_here", "_law_many"] (defScope sNext):=⟨rfl,rfl,rfl,by decide +kernel,rfl,by decide +kernel,by decide +kernel⟩
theorem c_next (h:Has K mg "_law_next" sNext ["_law_pot_here", "_law_many"])  : Cal P w K mg base "_law_next" 1 ["_law_pot_here", "_law_many"] spNext:=by
  refine h.mk' scNext (fun vs H Q E hs=>?_) (fun f cdv A outer s H vs Q E hr hs=>?_)
  · obtain ⟨d,lo,m,rfl,_⟩:=hs
    rfl
  obtain ⟨d,lo,m,rfl,⟨cs,l,sd,mn,ed,elo,hl,hcs⟩,m0,m1,k⟩:=hs
  refine ⟨_,(pss_cons (ps_if (PW.pt (pw_and (pt_cmpR op_eq (pe_dget (hu_of hr) (pv 0) pe_str (fun _ _=>rfl)) pe_int (nomark _)) (pw_and1 (pt_cmpR (op_neE hr.units0) (pe_dget (hu_of hr) (pv 0) pe_str (fun _ _=>rfl)) (pe_lst pa_nil) (nomark _)))))
      (pss_one (ps_dput (hu_of hr) (pv 0) pe_str (pe_bm PySem.F.plainAttrs_list PySem.F.slot_list_pop PySem.F.type_list_pop mt_popAt (pe_dget (hu_of hr) (pv 0) pe_str (fun _ _=>rfl)) (pa_cons pe_int pa_nil)) rfl))
      pss_nil)
    (pss_cons (ps_if (pt_cmpR op_gt (pe_dget (hu_of hr) (pv 0) pe_str (fun _ _=>rfl)) pe_int (nomark _))
      (pss_cons (ps_set (i:=2) scNext.nd rfl (Or.inl rfl) (pe_op op_mod (pe_dget (hu_of hr) (pv 0) pe_str (fun _ _=>rfl)) (pv 1)))
    (pss_cons (ps_dput (hu_of hr) (pv 0) pe_str (pe_op op_fdivB (pe_dget (hu_of hr) (pv 0) pe_str (fun _ _=>rfl)) (pv 1)) rfl)
    (pss_one (ps_ret (pv 2)))))
      pss_nil)
    (pss_cons (ps_dput (hu_of hr) (pv 0) pe_str (pe_op op_add (pe_dget (hu_of hr) (pv 0) pe_str (fun _ _=>rfl)) pe_int) rfl)
    (pss_cons (ps_set (i:=3) scNext.nd rfl (Or.inl rfl) (pe_op op_mod (pe_op op_mul (pe_op op_add (pe_dget (hu_of hr) (pv 0) pe_str (fun _ _=>rfl)) (pe_op op_mul (pe_dget (hu_of hr) (pv 0) pe_str (fun _ _=>rfl)) pe_int)) pe_int) pe_int))
    (pss_cons (ps_dput (hu_of hr) (pv 0) pe_str (pe_op op_mod (pe_op op_mul (pv 3) (pe_op op_add (pe_op op_mod (pv 3) pe_int) pe_int)) pe_int) rfl)
    (pss_one (ps_ret (pe_op op_mod (pe_op op_fdivB (pe_dget (hu_of hr) (pv 0) pe_str (fun _ _=>rfl)) pe_int) (pv 1))))))))),?_⟩
  have ndl:d≠lo:=ne_of ed elo (by intro z; cases z)
  have old0:Old d lo H H:=fun c o e _ _=>e
  refine ⟨_,rfl,d,_,rfl,g_left ed,rfl,_,rfl,?_⟩
  refine ite2 (fun z0=>?_) (fun z0=>?_)
  · have hl0:l=0:=by
      have:=of_decide_eq_true z0
      injection this
    subst hl0
    refine ⟨_,rfl,d,_,rfl,g_own ed,smn 0,fun b hb=>?_⟩
    have nbd:d≠b:=ne_of_none ed hb
    have nbl:lo≠b:=ne_of_none elo hb
    have s2:=same_new hb (.lst [])
    refine ⟨lo,b,_,rfl,rfl,s2 _ _ elo,upd_same,_,rfl,?_⟩
    have ed2:=s2 _ _ ed
    have elo2:=s2 _ _ elo
    have old2:Old d lo H (upd H b (.lst [])):=Old.new old0 hb
    generalize upd H b (.lst [])=H2 at ed2 elo2 old2
    cases cs with
    | nil =>
      refine iteF ?_
      refine ⟨_,rfl,d,_,rfl,g_left ed2,_,_,rfl,rfl,_,rfl,?_⟩
      refine ite2 (fun z=>?_) (fun z=>?_)
      · refine ⟨_,rfl,d,_,rfl,g_left ed2,_,rfl,_,_,rfl,rfl,m0,?_⟩
        refine ⟨_,rfl,d,_,rfl,g_left ed2,_,rfl,_,_,rfl,rfl,⟨m0,by omega⟩,_,rfl,d,_,rfl,u_left _ ed2,?_⟩
        refine ⟨_,rfl,k _ _ (Int.emod_nonneg _ (by omega)) (Int.emod_lt_of_pos _ m0) ⟨[],_,sd,mn,upd_same,(upd_ne ndl.symm).trans elo2,Int.ediv_nonneg (Int.le_refl 0) (by omega),hcs⟩ (Old.upd_d old2)⟩
      · refine ⟨_,rfl,d,_,rfl,g_many ed2,_,_,rfl,rfl,_,rfl,d,_,rfl,u_many _ ed2,?_⟩
        have ed2:(upd H2 d (.dK (potK lo 0 sd (mn+1)))) d=some (.dK (potK lo 0 sd (mn+1))):=upd_same
        refine ⟨_,rfl,d,_,rfl,g_seed ed2,_,rfl,d,_,rfl,g_many ed2,_,_,rfl,rfl,.inr ⟨by decide,by decide⟩,_,_,rfl,rfl,_,_,rfl,rfl,.inr ⟨by decide,by decide⟩,_,_,rfl,rfl,(by show (0:Int) < 2305843009213693951; decide),?_⟩
        have q0:0≤(sd+(mn+1) * 7919) * 48271 % 2305843009213693951:=Int.emod_nonneg _ (by decide)
        have q1:(sd+(mn+1) * 7919) * 48271 % 2305843009213693951 < 2305843009213693951:=Int.emod_lt_of_pos _ (by decide)
        refine ⟨_,rfl,_,rfl,_,_,rfl,rfl,(by show (0:Int) < 1009; decide),_,_,rfl,rfl,_,_,rfl,rfl,.inl ⟨by omega,by omega⟩,_,_,rfl,rfl,(by show (0:Int) < 2305843009213693951; decide),_,rfl,d,_,rfl,u_seed _ ed2,?_⟩
        refine ⟨_,rfl,d,_,rfl,g_seed upd_same,_,_,rfl,rfl,⟨by decide,by decide⟩,_,rfl,_,_,rfl,rfl,m0,?_⟩
        exact k _ _ (Int.emod_nonneg _ (by omega)) (Int.emod_lt_of_pos _ m0) ⟨[],0,_,_,upd_same,(upd_ne ndl.symm).trans ((upd_ne ndl.symm).trans elo2),(Int.le_refl 0),hcs⟩ (Old.upd_d (Old.upd_d old2))
    | cons c cs =>
      refine iteT ?_
      refine ⟨_,rfl,d,_,rfl,g_own ed2,.inl ⟨rfl,_,SqL.of elo2⟩,lo,_,0,0,.int c,rfl,rfl,elo2,by decide,by decide,by simp [seqIndex?],rfl,?_⟩
      have eloP:(upd H2 lo (.lst (((c :: cs).map V.int).eraseIdx 0))) lo=some (.lst (cs.map V.int)):=upd_same
      have edP:(upd H2 lo (.lst (((c :: cs).map V.int).eraseIdx 0))) d=some (.dK (potK lo 0 sd mn)):=(upd_ne ndl).trans ed2
      have oldP:Old d lo H (upd H2 lo (.lst (((c :: cs).map V.int).eraseIdx 0))):=Old.upd_lo old2
      have hc0:0≤c:=hcs c List.mem_cons_self
      have hcs':∀ x∈cs,0≤x:=fun x hx=>hcs x (List.mem_cons_of_mem _ hx)
      refine ⟨_,rfl,d,_,rfl,u_left c edP,?_⟩
      have ed3:(upd (upd H2 lo (.lst (((c :: cs).map V.int).eraseIdx 0))) d (.dK (potK lo c sd mn))) d=some (.dK (potK lo c sd mn)):=upd_same
      have elo3:=(upd_ne (o:=HO.dK (potK lo c sd mn)) ndl.symm).trans eloP
      have old3:=Old.upd_d (o:=HO.dK (potK lo c sd mn)) oldP
      generalize upd (upd H2 lo (.lst (((c :: cs).map V.int).eraseIdx 0))) d (.dK (potK lo c sd mn))=H3 at ed3 elo3 old3
      refine ⟨_,rfl,d,_,rfl,g_left ed3,_,_,rfl,rfl,_,rfl,?_⟩
      refine ite2 (fun z=>?_) (fun z=>?_)
      · refine ⟨_,rfl,d,_,rfl,g_left ed3,_,rfl,_,_,rfl,rfl,m0,?_⟩
        refine ⟨_,rfl,d,_,rfl,g_left ed3,_,rfl,_,_,rfl,rfl,⟨m0,by omega⟩,_,rfl,d,_,rfl,u_left _ ed3,?_⟩
        refine ⟨_,rfl,k _ _ (Int.emod_nonneg _ (by omega)) (Int.emod_lt_of_pos _ m0) ⟨cs,_,sd,mn,upd_same,(upd_ne ndl.symm).trans elo3,Int.ediv_nonneg hc0 (by omega),hcs'⟩ (Old.upd_d old3)⟩
      · refine ⟨_,rfl,d,_,rfl,g_many ed3,_,_,rfl,rfl,_,rfl,d,_,rfl,u_many _ ed3,?_⟩
        have ed2:(upd H3 d (.dK (potK lo c sd (mn+1)))) d=some (.dK (potK lo c sd (mn+1))):=upd_same
        refine ⟨_,rfl,d,_,rfl,g_seed ed2,_,rfl,d,_,rfl,g_many ed2,_,_,rfl,rfl,.inr ⟨by decide,by decide⟩,_,_,rfl,rfl,_,_,rfl,rfl,.inr ⟨by decide,by decide⟩,_,_,rfl,rfl,(by show (0:Int) < 2305843009213693951; decide),?_⟩
        have q0:0≤(sd+(mn+1) * 7919) * 48271 % 2305843009213693951:=Int.emod_nonneg _ (by decide)
        have q1:(sd+(mn+1) * 7919) * 48271 % 2305843009213693951 < 2305843009213693951:=Int.emod_lt_of_pos _ (by decide)
        refine ⟨_,rfl,_,rfl,_,_,rfl,rfl,(by show (0:Int) < 1009; decide),_,_,rfl,rfl,_,_,rfl,rfl,.inl ⟨by omega,by omega⟩,_,_,rfl,rfl,(by show (0:Int) < 2305843009213693951; decide),_,rfl,d,_,rfl,u_seed _ ed2,?_⟩
        refine ⟨_,rfl,d,_,rfl,g_seed upd_same,_,_,rfl,rfl,⟨by decide,by decide⟩,_,rfl,_,_,rfl,rfl,m0,?_⟩
        exact k _ _ (Int.emod_nonneg _ (by omega)) (Int.emod_lt_of_pos _ m0) ⟨cs,c,_,_,upd_same,(upd_ne ndl.symm).trans ((upd_ne ndl.symm).trans elo3),hc0,hcs'⟩ (Old.upd_d (Old.upd_d old3))
  · refine iteF ?_
    refine ⟨_,rfl,d,_,rfl,g_left ed,_,_,rfl,rfl,_,rfl,?_⟩
    refine ite2 (fun z=>?_) (fun z=>?_)
    · refine ⟨_,rfl,d,_,rfl,g_left ed,_,rfl,_,_,rfl,rfl,m0,?_⟩
      refine ⟨_,rfl,d,_,rfl,g_left ed,_,rfl,_,_,rfl,rfl,⟨m0,by omega⟩,_,rfl,d,_,rfl,u_left _ ed,?_⟩
      refine ⟨_,rfl,k _ _ (Int.emod_nonneg _ (by omega)) (Int.emod_lt_of_pos _ m0) ⟨cs,_,sd,mn,upd_same,(upd_ne ndl.symm).trans elo,Int.ediv_nonneg hl (by omega),hcs⟩ (Old.upd_d old0)⟩
    · refine ⟨_,rfl,d,_,rfl,g_many ed,_,_,rfl,rfl,_,rfl,d,_,rfl,u_many _ ed,?_⟩
      have ed2:(upd H d (.dK (potK lo l sd (mn+1)))) d=some (.dK (potK lo l sd (mn+1))):=upd_same
      refine ⟨_,rfl,d,_,rfl,g_seed ed2,_,rfl,d,_,rfl,g_many ed2,_,_,rfl,rfl,.inr ⟨by decide,by decide⟩,_,_,rfl,rfl,_,_,rfl,rfl,.inr ⟨by decide,by decide⟩,_,_,rfl,rfl,(by show (0:Int) < 2305843009213693951; decide),?_⟩
      have q0:0≤(sd+(mn+1) * 7919) * 48271 % 2305843009213693951:=Int.emod_nonneg _ (by decide)
      have q1:(sd+(mn+1) * 7919) * 48271 % 2305843009213693951 < 2305843009213693951:=Int.emod_lt_of_pos _ (by decide)
      refine ⟨_,rfl,_,rfl,_,_,rfl,rfl,(by show (0:Int) < 1009; decide),_,_,rfl,rfl,_,_,rfl,rfl,.inl ⟨by omega,by omega⟩,_,_,rfl,rfl,(by show (0:Int) < 2305843009213693951; decide),_,rfl,d,_,rfl,u_seed _ ed2,?_⟩
      refine ⟨_,rfl,d,_,rfl,g_seed upd_same,_,_,rfl,rfl,⟨by decide,by decide⟩,_,rfl,_,_,rfl,rfl,m0,?_⟩
      exact k _ _ (Int.emod_nonneg _ (by omega)) (Int.emod_lt_of_pos _ m0) ⟨cs,l,_,_,upd_same,(upd_ne ndl.symm).trans ((upd_ne ndl.symm).trans elo),hl,hcs⟩ (Old.upd_d (Old.upd_d old0))
end
section
variable {P:Program} {w:World} {K:PySem.W.Frag} {mg:Str→Option Value} {base:Heap}
theorem qex {X:Cx} {st:List Stmt} {D:Ends} {σ:L2.St} {H:Hp} (h:∃ t,QSs X st t∧t D σ H):∃ t,PSs X st t∧t D σ H:=h.elim fun t h=>⟨t,h.1.h,h.2⟩
theorem PotAt.same {d lo:Addr} {H H':Hp} (h:PotAt d lo H) (s:Same H H'):PotAt d lo H':=by
  obtain ⟨cs,l,sd,m,e1,e2,r⟩:=h
  exact ⟨cs,l,sd,m,s _ _ e1,s _ _ e2,r⟩
theorem PotAt.new {d lo b:Addr} {H:Hp} {o:HO} (h:PotAt d lo H) (hb:H b=none):PotAt d lo (upd H b o):=h.same (same_new hb o)
theorem PotAt.ne {d lo b:Addr} {H:Hp} (h:PotAt d lo H) (hb:H b=none):b≠d∧b≠lo:=by
  obtain ⟨cs,l,sd,m,e1,e2,r⟩:=h
  exact ⟨(ne_of_none e1 hb).symm,(ne_of_none e2 hb).symm⟩
theorem PotAt.upd {d lo b:Addr} {H:Hp} {o:HO} (h:PotAt d lo H) (h1:b≠d) (h2:b≠lo):PotAt d lo (upd H b o):=by
  obtain ⟨cs,l,sd,m,e1,e2,r⟩:=h
  exact ⟨cs,l,sd,m,(upd_ne h1.symm).trans e1,(upd_ne h2.symm).trans e2,r⟩
theorem Old.trans {d lo:Addr} {H H1 H2:Hp} (a:Old d lo H H1) (b:Old d lo H1 H2):Old d lo H H2:=fun c o e h1 h2=>b c o (a c o e h1 h2) h1 h2
theorem Old.of {d lo:Addr} {H H1:Hp} (a:Same H H1):Old d lo H H1:=fun c o e _ _=>a c o e
theorem Old.free {d lo b:Addr} {H H1:Hp} {o:HO} (a:Old d lo H H1) (hb:H b=none):Old d lo H (L2.upd H1 b o):=fun c o' e h1 h2=>by
  rw [upd_ne (ne_of_none e hb)]
  exact a c o' e h1 h2
theorem old_keep {d lo:Addr} {H H':Hp} (hp:PotAt d lo H) (o:Old d lo H H'):∀ (b:Addr) (vs:List V),H b=some (.tup vs)→H' b=some (.tup vs):=fun b vs e=>by
  obtain ⟨cs,l,sd,m,e1,e2,r⟩:=hp
  exact o b _ e (ne_of e e1 (by intro z; cases z)) (ne_of e e2 (by intro z; cases z))
theorem drawN {σ:L2.St} {H:Hp} {i:Nat} {d lo:Addr} {m:Int} {Q:VK} (hσ:σ[i]?=some (some (.ref d))) (hp:PotAt d lo H) (h0:0 < m) (h1:m < 2 ^ 63) (k:∀ (r:Int) (H':Hp),0≤r→r < m→PotAt d lo H'→Old d lo H H'→Q (.int r) H') :
    tCall spNext [] E0 (tCons (tVar i) (tCons (tC (.int m)) tNil)) σ H Q:=⟨_,hσ,d,lo,m,rfl,hp,h0,h1,k⟩
theorem seq_nat {k n:Nat} (h:k < n):seqIndex? ((k:Nat):Int) n=some k:=by
  unfold seqIndex?
  simp
  omega
theorem erase_map {α β:Type} (f:α→β):∀ (xs:List α) (i:Nat),(xs.map f).eraseIdx i=(xs.eraseIdx i).map f
  | [],_=>rfl
  | _ :: _,0=>rfl
  | x :: xs,i+1=>by
    show f x :: (xs.map f).eraseIdx i=f x :: (xs.eraseIdx i).map f
    rw [erase_map f xs i]
theorem pick2 {K:PySem.W.Frag} {H:Hp} {l:Addr} {a b r:Int} {Q:VK} (h:H l=some (.lst [.int a,.int b])) (k:∀ v:Int,v=a∨v=b→Q (.int v) H):rIxL K (.ref l) (.int (if decide (V.int r=V.int 0)=true then 1 else 0)) H Q:=by
  by_cases hr:decide (V.int r=V.int 0)=true
  · rw [if_pos hr]
    exact ⟨l,_,_,.int b,rfl,rfl,SqL.of h,atI_nat (xs:=[V.int a,V.int b]) (j:=1) rfl,k b (.inr rfl)⟩
  · rw [if_neg hr]
    exact ⟨l,_,_,.int a,rfl,rfl,SqL.of h,atI_zero _ _,k a (.inl rfl)⟩
theorem good_str {x y:Str} (hx:∀ c∈x.cps.toList,goodS c) (hy:∀ c∈y.cps.toList,goodS c):∀ c∈(x++y).cps.toList,goodS c:=fun c hc=>by
  have e:(x++y).cps.toList=x.cps.toList++y.cps.toList:=by
    show (x.cps++y.cps).toList=_
    simp
  rw [e] at hc
  rcases List.mem_append.mp hc with z | z
  · exact hx c z
  · exact hy c z
instance (c:Nat):Decidable (goodS c):=by unfold goodS; infer_instance
end
def spCount:Sp:=fun vs H Q _=>∃ (d lo:Addr) (n:Int),vs=[.ref d,.int n]∧PotAt d lo H∧0≤n∧n≤12∧∀ (r:Int) (H':Hp),0≤r→r≤12→PotAt d lo H'→Old d lo H H'→Q (.int r) H'
def spMoments:Sp:=fun vs H Q _=>∃ (d lo:Addr) (n:Nat),vs=[.ref d,.int (n:Nat)]∧PotAt d lo H∧n≤13∧∀ (q:Addr) (ms:List Int) (H':Hp),H' q=some (.tup (ms.map V.int))→GoodM ms→ms.length=n→PotAt d lo H'→Old d lo H H'→Q (.ref q) H'
def Old3 (d lo l:Addr) (H H':Hp):Prop:=∀ c o,H c=some o→c≠d→c≠lo→c≠l→H' c=some o
def spTaken:Sp:=fun vs H Q _=>∃ (d lo l:Addr) (xs:Nms),vs=[.ref d,.ref l]∧PotAt d lo H∧H l=some (.lst (xs.map mkT))∧l≠d∧l≠lo∧xs≠[]∧xs.length≤1000∧∀ (i:Nat) (h:i < xs.length) (H':Hp),H' l=some (.lst ((xs.eraseIdx i).map mkT))→PotAt d lo H'→Old3 d lo l H H'→Q (mkT xs[i]) H'
section
variable {P:Program} {w:World} {K:PySem.W.Frag} {mg:Str→Option Value} {base:Heap}
theorem scCount:FnScope ["_law_pot_here", "_law_most"] ["_law_pot_here", "_law_most"] (defScope sCount):=⟨rfl,rfl,rfl,by decide +kernel,rfl,by decide +kernel,by decide +kernel⟩
theorem c_count (h:Has K mg "_law_count" sCount ["_law_pot_here", "_law_most"]) (C_next:Cal P w K mg base "_law_next" 1 ["_law_pot_here", "_law_many"] spNext) (m_int:mg "int" = none):Cal P w K mg base "_law_count" 2 ["_law_pot_here", "_law_most"] spCount:=by
  refine h.mk' scCount (fun vs H Q E hs=>?_) (fun f cdv A outer s H vs Q E hr hs=>?_)
  · obtain ⟨d,lo,n,rfl,_⟩:=hs
    rfl
  obtain ⟨d,lo,n,rfl,hp,h0,h1,k⟩:=hs
  refine ⟨_,(pss_one (ps_ret (pe_cal C_next hr (by decide) rfl (pa_cons (pv 0) (pa_cons (pe_op op_add (pe_ix ix_list (pe_lst (pa_cons (pv 1) (pa_cons pe_int pa_nil))) (pe_callTy call_int1 rfl m_int boot_int (pa_cons (pe_cmpR op_eq (pe_cal C_next hr (by decide) rfl (pa_cons (pv 0) (pa_cons pe_int pa_nil))) pe_int (nomark _)) pa_nil)) (fun _ _=>rfl)) pe_int) pa_nil))))),?_⟩
  refine ⟨_,rfl,_,rfl,smn 2,fun l2 hl2=>?_⟩
  have hp2:=hp.new (o:=HO.lst [.int n,.int 12]) hl2
  obtain ⟨n2d,n2l⟩:=hp.ne hl2
  refine drawN (σ:=[some (.ref d),some (.int n)]) (i:=0) (m:=8) rfl hp2 (by decide) (by decide) fun r H2 r0 r1 p2 o2=>?_
  refine ⟨rfl,.inr ⟨_,rfl,pick2 (o2 l2 _ upd_same n2d n2l) fun v hv=>?_⟩⟩
  have hv5:0≤v∧v≤12:=by rcases hv with rfl | rfl <;> omega
  refine ⟨_,_,rfl,rfl,d,lo,_,rfl,p2,(by show 0 < v+1; omega),(by show v+1 < _; omega),fun r3 H3 q0 q1 p3 o3=>?_⟩
  exact k r3 H3 q0 (by omega) p3 (((Old.of (same_new hl2 _)).trans o2).trans o3)
theorem scTaken:FnScope ["_law_pot_here", "_law_names_here"] ["_law_pot_here", "_law_names_here"] (defScope sTaken):=⟨rfl,rfl,rfl,by decide +kernel,rfl,by decide +kernel,by decide +kernel⟩
theorem c_taken (h:Has K mg "_law_taken" sTaken ["_law_pot_here", "_law_names_here"]) (C_next:Cal P w K mg base "_law_next" 1 ["_law_pot_here", "_law_many"] spNext) (m_len:mg "len" = none):Cal P w K mg base "_law_taken" 2 ["_law_pot_here", "_law_names_here"] spTaken:=by
  refine h.mk' scTaken (fun vs H Q E hs=>?_) (fun f cdv A outer s H vs Q E hr hs=>?_)
  · obtain ⟨d,lo,l,xs,rfl,_⟩:=hs
    rfl
  obtain ⟨d,lo,l,xs,rfl,hp,hl,nd,nl,hne,hlen,k⟩:=hs
  refine ⟨_,(pss_one (ps_ret (pe_bm PySem.F.plainAttrs_list PySem.F.slot_list_pop PySem.F.type_list_pop mt_popAt (pv 1) (pa_cons (pe_cal C_next hr (by decide) rfl (pa_cons (pv 0) (pa_cons (pe_callB call_len_seq rfl m_len PySem.boot_len (pa_cons (pv 1) pa_nil)) pa_nil))) pa_nil)))),?_⟩
  have hpos:0 < xs.length:=List.length_pos_iff.mpr hne
  refine ⟨_,rfl,.inl ⟨rfl,_,SqL.of hl⟩,_,rfl,_,rfl,l,_,rfl,.inl (SqL.of hl),?_⟩
  refine ⟨d,lo,_,rfl,hp,(by rw [List.length_map]; omega),(by rw [List.length_map]; omega),fun r H2 r0 r1 p2 o2=>?_⟩
  have hl2:H2 l=some (.lst (xs.map mkT)):=o2 l _ hl nd nl
  obtain ⟨i,rfl⟩:=Int.eq_ofNat_of_zero_le r0
  have hi:i < xs.length:=by
    rw [List.length_map] at r1
    omega
  refine ⟨l,_,_,i,mkT xs[i],rfl,rfl,hl2,by omega,by omega,by rw [List.length_map]; exact seq_nat hi,by rw [List.getElem?_map,List.getElem?_eq_getElem hi]; rfl,?_⟩
  rw [erase_map]
  exact k i hi _ upd_same (p2.upd nd nl) fun c o e h1 h2 h3=>(upd_ne h3).trans (o2 c o e h1 h2)
theorem scMoments:FnScope ["_law_pot_here", "_law_many", "_law_made", "_law_now", "_law_k"] ["_law_pot_here", "_law_many"] (defScope sMoments):=⟨rfl,rfl,rfl,by decide +kernel,rfl,by decide +kernel,by decide +kernel⟩
theorem c_moments (h:Has K mg "_law_moments" sMoments ["_law_pot_here", "_law_many"]) (C_next:Cal P w K mg base "_law_next" 1 ["_law_pot_here", "_law_many"] spNext) (m_int:mg "int" = none) (m_range:mg "range" = none) (m_tuple:mg "tuple" = none):Cal P w K mg base "_law_moments" 2 ["_law_pot_here", "_law_many"] spMoments:=by
  refine h.mk' scMoments (fun vs H Q E hs=>?_) (fun f cdv A outer s H vs Q E hr hs=>?_)
  · obtain ⟨d,lo,n,rfl,_⟩:=hs
    rfl
  obtain ⟨d,lo,n,rfl,hp,hn,k⟩:=hs
  refine ⟨_,(pss_cons (ps_set (i:=2) scMoments.nd rfl (Or.inl rfl) (pe_lst pa_nil))
    (pss_cons (ps_set (i:=3) scMoments.nd rfl (Or.inl rfl) (pe_ix ix_list (pe_lst (pa_cons pe_int (pa_cons (pe_op op_sub (pe_op op_pow pe_int pe_int) pe_int) pa_nil))) (pe_callTy call_int1 rfl m_int boot_int (pa_cons (pe_cmpR op_eq (pe_cal C_next hr (by decide) rfl (pa_cons (pv 0) (pa_cons pe_int pa_nil))) pe_int (nomark _)) pa_nil)) (fun _ _=>rfl)))
    (pss_cons (ps_for PassesOwn.never rfl (pi_range1 rfl m_range (pa_cons (pv 1) pa_nil)) (pg_name (i:=4) scMoments.nd rfl (Or.inl rfl))
      (pss_cons (ps_set (i:=3) scMoments.nd rfl (Or.inl rfl) (pe_op op_add (pe_op op_add (pv 3) (pe_cal C_next hr (by decide) rfl (pa_cons (pv 0) (pa_cons pe_int pa_nil)))) (pe_callTy call_int1 rfl m_int boot_int (pa_cons (pe_cmpR op_gt (pv 4) pe_int (nomark _)) pa_nil))))
    (pss_one (ps_expr (pe_bm PySem.F.plainAttrs_list PySem.F.slot_list_append PySem.F.type_list_append mt_append (pv 2) (pa_cons (pv 3) pa_nil))))))
    (pss_one (ps_ret (pe_callTy call_tuple_of rfl m_tuple boot_tuple (pa_cons (pv 2) pa_nil))))))),?_⟩
  refine ⟨smn 0,fun lm hlm=>?_⟩
  obtain ⟨nmd,nml⟩:=hp.ne hlm
  have hp1:=hp.new (o:=HO.lst []) hlm
  refine ⟨_,_,rfl,rfl,⟨by decide,by decide,by decide⟩,_,_,rfl,rfl,smn 2,fun l2 hl2=>?_⟩
  obtain ⟨n2d,n2l⟩:=hp1.ne hl2
  refine drawN (σ:=[some (.ref d),some (.int (n:Nat)),some (.ref lm),none,none]) (i:=0) (m:=12) rfl (hp1.new hl2) (by decide) (by decide) fun r H2 r0 r1 p2 o2=>?_
  have e2v:H2 lm=some (.lst []):=o2 lm _ (same_new hl2 _ _ _ upd_same) nmd nml
  have oA:Old d lo H H2:=((Old.of (same_new hlm _)).trans (Old.of (same_new hl2 _))).trans o2
  refine ⟨rfl,.inr ⟨_,rfl,pick2 (o2 l2 _ upd_same n2d n2l) fun v hv=>?_⟩⟩
  have e10:(10:Int) ^ (12:Int).toNat=1000000000000:=by decide
  have hv5:0≤v∧v≤999999999500:=by
    rcases hv with rfl | rfl
    · decide
    · rw [e10]
      decide
  refine ⟨_,rfl,_,rfl,by omega,by omega,?_⟩
  refine for_range (lo:=0) (n:=n) (fun j σ H4=>∃ (v4:Option V) (now:Int) (ms:List Int),σ=[some (.ref d),some (.int (n:Nat)),some (.ref lm),some (.int now),v4]∧PotAt d lo H4∧Old d lo H H4∧H4 lm=some (.lst (ms.map V.int))∧ms.length=j∧0≤now∧now≤999999999500+30 * j∧(∀ m∈ms,0≤m∧m≤now)∧ms.Pairwise (· < ·))
    ⟨none,v,[],rfl,p2,oA,e2v,rfl,hv5.1,by omega,(fun m h=>by cases h),.nil⟩ ?_ ?_
  · rintro j σ H4 hj ⟨v4,now,ms,rfl,p4,o4,e4,hl4,hn0,hn1,hms,hpw⟩
    refine gN ⟨_,rfl,?_⟩
    refine drawN (σ:=[some (.ref d),some (.int (n:Nat)),some (.ref lm),some (.int now),some (.int (0+(j:Int)))]) (i:=0) (m:=30) rfl p4 (by decide) (by decide) fun r5 H5 q0 q1 p5 o5=>?_
    have e5:H5 lm=some (.lst (ms.map V.int)):=o5 lm _ e4 nmd nml
    refine ⟨_,_,rfl,rfl,_,rfl,_,_,rfl,rfl,.inr ⟨_,rfl,_,_,rfl,rfl,?_⟩⟩
    generalize hb:(if decide ((0:Int) < 0+(j:Int))=true then (1:Int) else 0)=b
    have hb0:0≤b∧b≤1∧(0 < j→b=1):=by
      subst hb
      by_cases hj0:0 < j
      · rw [if_pos (decide_eq_true (by omega))]
        exact ⟨by decide,by decide,fun _=>rfl⟩
      · rw [if_neg (fun z=>by have:=of_decide_eq_true z; omega)]
        exact ⟨by decide,by decide,fun z=>absurd z hj0⟩
    refine ⟨_,rfl,.inl ⟨rfl,_,SqL.of e5⟩,_,rfl,lm,_,_,rfl,rfl,e5,?_,?_⟩
    · rw [List.length_map]
      exact small1000 (by omega)
    · refine ⟨_,now+r5+b,ms++[now+r5+b],rfl,p5.upd nmd nml,(o4.trans o5).free hlm,?_,by rw [List.length_append,hl4]; rfl,by omega,by omega,fun m hm=>?_,?_⟩
      · rw [upd_same,List.map_append]
        rfl
      · rcases List.mem_append.mp hm with z | z
        · have:=hms m z
          omega
        · rw [List.mem_singleton.mp z]
          omega
      · rw [List.pairwise_append]
        refine ⟨hpw,List.pairwise_singleton _ _,fun a ha c hc=>?_⟩
        rw [List.mem_singleton.mp hc]
        have hj0:0 < j:=by
          rw [← hl4]
          exact List.length_pos_of_mem ha
        have:=(hms a ha).2
        have:=hb0.2.2 hj0
        omega
  · rintro σ H4 ⟨v4,now,ms,rfl,p4,o4,e4,hl4,hn0,hn1,hms,hpw⟩
    refine ⟨_,rfl,lm,_,rfl,.inl ⟨SqL.of e4,fun q hq=>?_⟩⟩
    exact k q ms _ upd_same ⟨fun m hm=>⟨(hms m hm).1,by have:=(hms m hm).2; omega⟩,hpw,by omega⟩ hl4 (p4.new hq) (o4.trans (Old.of (same_new hq _)))
end
def unD:D→List Nat
  | .str x=>x.cps.toList
  | _=>[]
theorem unD_sD (x:List Nat):unD (sD x)=x:=by
  show (x.toArray).toList=x
  simp
theorem map_unD:∀ (ts:Nms),(ts.map sD).map unD=ts
  | []=>rfl
  | t :: ts=>by rw [List.map_cons,List.map_cons,unD_sD,map_unD ts]
theorem sD_of_perm {ds:List D} {ts:Nms} (h:ds.Perm (ts.map sD)):∃ ns:Nms,ds=ns.map sD∧ns.Perm ts:=by
  refine ⟨ds.map unD,?_,?_⟩
  · have all:∀ d∈ds,sD (unD d)=d:=fun d hd=>by
      obtain ⟨x,_,rfl⟩:=List.mem_map.mp (h.mem_iff.mp hd)
      rw [unD_sD]
    rw [List.map_map]
    conv=>lhs; rw [← List.map_id ds]
    exact List.map_congr_left fun d hd=>(all d hd).symm
  · have:=h.map unD
    rwa [map_unD] at this
theorem sD_inj {a b:List Nat} (h:sD a=sD b):a=b:=by
  have:=congrArg unD h
  rwa [unD_sD,unD_sD] at this
theorem up_strict {ns:Nms} (hu:UpD (ns.map sD)) (hn:ns.Nodup):ns.Pairwise fun a b=>dlt (sD a) (sD b)=true:=by
  unfold UpD at hu
  rw [List.pairwise_map] at hu
  rw [List.nodup_iff_pairwise_ne] at hn
  refine List.Pairwise.imp₂ (fun a b h1 h2=>?_) hu hn
  cases h:dlt (sD a) (sD b) with
  | true=>rfl
  | false=>exact absurd (sD_inj (dlt_tot _ _ h h1)) h2
theorem hom_names (ts:Nms):Hom (ts.map sD):=by
  refine ⟨fun a ha b hb=>?_,.inr (.inl fun d hd=>?_)⟩
  · obtain ⟨x,_,rfl⟩:=List.mem_map.mp ha
    obtain ⟨y,_,rfl⟩:=List.mem_map.mp hb
    exact sim_str _ _
  · obtain ⟨x,_,rfl⟩:=List.mem_map.mp hd
    exact ⟨_,rfl⟩
theorem perm_pull {α:Type}:∀ {xs:List α} {i:Nat} (h:i < xs.length),xs.Perm ([xs[i]]++xs.eraseIdx i)
  | x :: xs,0,_=>List.Perm.refl _
  | x :: xs,i+1,h=>by
    have h':i < xs.length:=by simpa using h
    have ih:=perm_pull h'
    show (x :: xs).Perm (xs[i] :: x :: xs.eraseIdx i)
    exact ((ih.cons x).trans (List.Perm.swap _ _ _))
def spSome:Sp:=fun vs H Q _=>∃ (d lo l:Addr) (xs:Nms) (n:Int),vs=[.ref d,.ref l,.int n]∧PotAt d lo H∧H l=some (.lst (xs.map mkT))∧l≠d∧l≠lo∧xs≠[]∧xs.length≤1000∧xs.Nodup∧(∀ x∈xs,isNm ⟨x.toArray⟩=true)∧1≤n∧n≤12 ∧
  ∀ (q:Addr) (ns rest:Nms) (H':Hp),H' q=some (.tup (ns.map mkT))→GoodN ns→ns≠[]→ns.length≤13→xs.Perm (ns++rest)→H' l=some (.lst (rest.map mkT))→PotAt d lo H'→Old3 d lo l H H'→Q (.ref q) H'
section
variable {P:Program} {w:World} {K:PySem.W.Frag} {mg:Str→Option Value} {base:Heap}
theorem scSome:FnScope ["_law_pot_here", "_law_names_here", "_law_most", "_law_many"] ["_law_pot_here", "_law_names_here", "_law_most"] (defScope sSome):=⟨rfl,rfl,rfl,by decide +kernel,rfl,by decide +kernel,by decide +kernel⟩
theorem c_some (h:Has K mg "_law_some" sSome ["_law_pot_here", "_law_names_here", "_law_most"]) (C_count:Cal P w K mg base "_law_count" 2 ["_law_pot_here", "_law_most"] spCount) (C_taken:Cal P w K mg base "_law_taken" 2 ["_law_pot_here", "_law_names_here"] spTaken) (m_min:mg "min" = none) (m_len:mg "len" = none) (m_tuple:mg "tuple" = none) (m_sorted:mg "sorted" = none) (m_range:mg "range" = none):Cal P w K mg base "_law_some" 3 ["_law_pot_here", "_law_names_here", "_law_most"] spSome:=by
  refine h.mk' scSome (fun vs H Q E hs=>?_) (fun f cdv A outer s H vs Q E hr hs=>?_)
  · obtain ⟨d,lo,l,xs,n,rfl,_⟩:=hs
    rfl
  obtain ⟨d,lo,l,xs,n,rfl,hp,hl,nd,nl,hne,hlen,hnd,hnm,hn0,hn1,k⟩:=hs
  refine ⟨_,(pss_cons (ps_set (i:=3) scSome.nd rfl (Or.inl rfl) (pe_callB (call_min2 rfl) rfl m_min boot_min (pa_cons (pe_op op_add pe_int (pe_cal C_count hr (by decide) rfl (pa_cons (pv 0) (pa_cons (pe_op op_sub (pv 2) pe_int) pa_nil)))) (pa_cons (pe_callB call_len_seq rfl m_len PySem.boot_len (pa_cons (pv 1) pa_nil)) pa_nil))))
    (pss_one (ps_ret (pe_callTy call_tuple_of rfl m_tuple boot_tuple (pa_cons (pe_callB (call_sortedD hr.units) rfl m_sorted boot_sorted (pa_cons (pe_compL ["_law_pot_here", "_law_names_here", "_law_most", "_law_many"] (defScope sSome) ["_law_pot_here", "_law_names_here", "_law_k"] [some 0,some 1,none] rfl rfl rfl (pi_range1 rfl m_range (pa_cons (pv 3) pa_nil)) rfl (by decide +kernel) (by decide +kernel) (by decide +kernel) (by decide +kernel) (hg:=fun cl C s H ex pn E=>(pg_name (i:=2) (by decide +kernel:(["_law_pot_here", "_law_names_here", "_law_k"]:List Str).Nodup) rfl (Or.inl rfl))) (ht:=fun cl C s H ex pn E=>pifs_nil) (he:=fun cl C s H ex pn E=>(pe_cal C_taken hr (by decide) rfl (pa_cons (pv 0) (pa_cons (pv 1) pa_nil))))) pa_nil)) pa_nil))))),?_⟩
  have hpos:0 < xs.length:=List.length_pos_iff.mpr hne
  refine ⟨_,rfl,_,rfl,_,_,rfl,rfl,d,lo,_,rfl,hp,by omega,by omega,fun r H2 r0 r1 p2 o2=>?_⟩
  have hl2:H2 l=some (.lst (xs.map mkT)):=o2 l _ hl nd nl
  refine ⟨_,_,rfl,rfl,_,rfl,l,_,rfl,.inl (SqL.of hl2),_,_,rfl,?_⟩
  rw [List.length_map]
  obtain ⟨many,em,hm1,hm2,hm3⟩:∃ many:Nat,(if (xs.length:Int) < 1+r then (xs.length:Int) else 1+r)=(many:Int)∧1≤many∧many≤13∧many≤xs.length:=by
    by_cases hc:(xs.length:Int) < 1+r
    · rw [if_pos hc]
      exact ⟨xs.length,rfl,hpos,by omega,Nat.le_refl _⟩
    · rw [if_neg hc]
      exact ⟨(1+r).toNat,by omega,by omega,by omega,by omega⟩
  rw [em]
  refine ⟨_,rfl,_,rfl,by omega,by omega,fun lc hlc=>?_⟩
  obtain ⟨ncd,ncl⟩:=p2.ne hlc
  have ncL:lc≠l:=(ne_of_none hl2 hlc).symm
  refine comp_by (J:=Itr 0 many) (l:=lc) many (fun i σ' H'=>∃ (v:Option V) (ts rest:Nms),σ'=[some (.ref d),some (.ref l),v]∧H' lc=some (.lst (ts.map mkT))∧H' l=some (.lst (rest.map mkT))∧ts.length=i∧xs.Perm (ts++rest)∧PotAt d lo H'∧Old3 d lo l H H')
    ⟨none,[],xs,rfl,upd_same,(upd_ne ncL.symm).trans hl2,rfl,List.Perm.refl _,p2.new hlc,fun c o e h1 h2 h3=>same_new hlc _ _ _ (o2 c o e h1 h2)⟩ ?_ ?_
  · rintro σ' H' ⟨v,ts,rest,rfl,e1,e2,hlt,hpm,p3,o3⟩
    refine ⟨Nat.le_refl _,lc,_,_,rfl,.inl (SqL.of e1),denS_of _ ts,hom_names ts,by rw [List.length_map]; omega,fun x hx=>?_,fun l4 us ds' hl4 hpd hup hdn=>?_⟩
    · obtain ⟨y,_,rfl⟩:=List.mem_map.mp hx
      exact show Shal 50 _ from shal_ups (n:=0) (shal_str _) 50
    obtain ⟨ns,rfl,hns⟩:=sD_of_perm hpd
    have eu:=denS hdn
    subst eu
    have hpm2:xs.Perm (ns++rest):=hpm.trans (hns.symm.append_right rest)
    have hnd2:ns.Nodup:=(hpm2.nodup_iff.mp hnd).sublist (List.sublist_append_left _ _)
    have s4:=same_new hl4 (.lst (ns.map mkT))
    refine ⟨l4,_,rfl,.inl ⟨SqL.of upd_same,fun q hq=>?_⟩⟩
    have s5:=s4.trans (same_new hq (.tup (ns.map mkT)))
    refine k q ns rest _ upd_same ⟨fun x hx=>hnm x (hpm2.mem_iff.mpr (List.mem_append_left _ hx)),up_strict hup hnd2,by rw [hns.length_eq]; omega⟩ ?_ (by rw [hns.length_eq]; omega) hpm2 (s5 _ _ e2) (p3.same s5) fun c o e h1 h2 h3=>s5 _ _ (o3 c o e h1 h2 h3)
    intro z
    subst z
    have:=hns.length_eq
    simp at this
    omega
  · rintro i σ' H' hi ⟨v,ts,rest,rfl,e1,e2,hlt,hpm,p3,o3⟩
    have hrl:ts.length+rest.length=xs.length:=by
      have:=hpm.length_eq
      rw [List.length_append] at this
      omega
    refine ⟨hi,?_⟩
    rintro y H'' ⟨rfl,rfl⟩
    refine gN (yesT (iteT ?_))
    refine ⟨_,rfl,_,rfl,d,lo,l,rest,rfl,p3,e2,nd,nl,(fun z=>by subst z; simp at hrl; omega),by omega,fun j hj H4 e4 p4 o4=>?_⟩
    have e1':H4 lc=some (.lst (ts.map mkT)):=o4 lc _ e1 ncd ncl ncL
    refine ⟨_,e1',?_,_,ts++[rest[j]],rest.eraseIdx j,rfl,?_,(upd_ne ncL.symm).trans e4,by rw [List.length_append,hlt]; rfl,?_,p4.upd ncd ncl,?_⟩
    · rw [List.length_map]
      exact small1000 (by omega)
    · rw [upd_same,List.map_append]
      rfl
    · refine hpm.trans ?_
      rw [List.append_assoc]
      exact (perm_pull hj).append_left ts
    · intro c o e h1 h2 h3
      have hlcH:H lc=none:=by
        cases hc:H lc with
        | none=>rfl
        | some o' =>
          have:=o2 lc o' hc ncd ncl
          rw [hlc] at this
          cases this
      rw [upd_ne (ne_of_none e hlcH)]
      exact o4 c o (o3 c o e h1 h2 h3) h1 h2 h3
end
def spText:Sp:=fun vs H Q _=>∃ (d lo:Addr),vs=[.ref d]∧PotAt d lo H∧∀ (t:List Nat) (H':Hp),t.length≤400→(∀ c∈t,goodS c)→PotAt d lo H'→Old d lo H H'→Q (.str ⟨t.toArray⟩) H'
section
variable {P:Program} {w:World} {K:PySem.W.Frag} {mg:Str→Option Value} {base:Heap}
theorem len_rep {α:Type} (n:Nat) (t:List α):(List.replicate n t).flatten.length=n * t.length:=by
  induction n with
  | zero=>simp
  | succ n ih=>rw [List.replicate_succ,List.flatten_cons,List.length_append,ih,Nat.succ_mul,Nat.add_comm]
theorem mem_rep {α:Type} {n:Nat} {t:List α} {c:α} (h:c∈(List.replicate n t).flatten):c∈t:=by
  obtain ⟨l,hl,hc⟩:=List.mem_flatten.mp h
  rw [(List.mem_replicate.mp hl).2] at hc
  exact hc
theorem str_self (x:Str):x=⟨x.cps.toList.toArray⟩:=by cases x; simp
theorem scText:FnScope ["_law_pot_here", "_law_pieces", "_law_text_here", "_law_k"] ["_law_pot_here"] (defScope sText):=⟨rfl,rfl,rfl,by decide +kernel,rfl,by decide +kernel,by decide +kernel⟩
theorem c_text (h:Has K mg "_law_text" sText ["_law_pot_here"]) (C_next:Cal P w K mg base "_law_next" 1 ["_law_pot_here", "_law_many"] spNext) (m_range:mg "range" = none):Cal P w K mg base "_law_text" 2 ["_law_pot_here"] spText:=by
  refine h.mk' scText (fun vs H Q E hs=>?_) (fun f cdv A outer s H vs Q E hr hs=>?_)
  · obtain ⟨d,lo,rfl,_⟩:=hs
    rfl
  obtain ⟨d,lo,rfl,hp,k⟩:=hs
  refine qex ⟨_,(qss_cons (qs_set (i:=1) scText.nd rfl (Or.inl rfl) (qe_lst (qa_c ⟨pe_str⟩ (qa_c ⟨pe_str⟩ (qa_c ⟨pe_str⟩ (qa_c ⟨pe_str⟩ (qa_c ⟨pe_str⟩ (qa_c ⟨pe_str⟩ (qa_c ⟨pe_str⟩ (qa_c ⟨pe_str⟩ (qa_c ⟨pe_str⟩ (qa_c ⟨pe_str⟩ (qa_c ⟨pe_str⟩ qa_nil)))))))))))))
    ⟨(pss_cons (ps_set (i:=1) scText.nd rfl (Or.inl rfl) (pe_op op_cat (pv 1) (pe_lst (pa_cons pe_str (pa_cons pe_str (pa_cons pe_str pa_nil))))))
    (pss_cons (ps_set (i:=2) scText.nd rfl (Or.inl rfl) pe_str)
    (pss_cons (ps_for PassesOwn.never rfl (pi_range1 rfl m_range (pa_cons (pe_cal C_next hr (by decide) rfl (pa_cons (pv 0) (pa_cons pe_int pa_nil))) pa_nil)) (pg_name (i:=3) scText.nd rfl (Or.inl rfl))
      (pss_one (ps_set (i:=2) scText.nd rfl (Or.inl rfl) (pe_op op_add_str (pv 2) (pe_ix ix_list (pv 1) (pe_cal C_next hr (by decide) rfl (pa_cons (pv 0) (pa_cons pe_int pa_nil))) (fun _ _=>rfl))))))
    (pss_cons (ps_if (pt_cmpR op_eq (pe_cal C_next hr (by decide) rfl (pa_cons (pv 0) (pa_cons pe_int pa_nil))) pe_int (nomark _))
      (pss_one (ps_set (i:=2) scText.nd rfl (Or.inl rfl) (pe_op op_mulS (pe_op op_add_str (pv 2) pe_str) pe_int)))
      pss_nil)
    (pss_one (ps_ret (pe_slice sl_str (pv 2) po_none (po_some pe_int))))))))⟩),?_⟩
  refine ⟨smn 11,fun lm hlm=>?_⟩
  have hp1:=hp.new (o:=HO.lst ((["One", "two 3", "a", " ", "x-y", "Zz9", "~", "Word word", "4", ", ", "_b"]:List Str).map V.str)) hlm
  have em:(upd H lm (.lst ((["One", "two 3", "a", " ", "x-y", "Zz9", "~", "Word word", "4", ", ", "_b"]:List Str).map V.str))) lm=some (.lst ((["One", "two 3", "a", " ", "x-y", "Zz9", "~", "Word word", "4", ", ", "_b"]:List Str).map V.str)):=upd_same
  refine ⟨_,rfl,smn 3,fun l2 hl2=>?_⟩
  have e2:(upd (upd H lm (.lst ((["One", "two 3", "a", " ", "x-y", "Zz9", "~", "Word word", "4", ", ", "_b"]:List Str).map V.str))) l2 (.lst ((["\n", "\\", "\""]:List Str).map V.str))) l2=some (.lst ((["\n", "\\", "\""]:List Str).map V.str)):=upd_same
  have hp2:=hp1.new (o:=HO.lst ((["\n", "\\", "\""]:List Str).map V.str)) hl2
  refine ⟨lm,l2,_,_,rfl,rfl,same_new hl2 _ _ _ em,e2,smn 14,fun l3 hl3=>?_⟩
  have oA:Old d lo H _:=((Old.of (same_new hlm _)).trans (Old.of (same_new hl2 _))).trans (Old.of (same_new hl3 (.lst ((["One", "two 3", "a", " ", "x-y", "Zz9", "~", "Word word", "4", ", ", "_b", "\n", "\\", "\""]:List Str).map V.str))))
  have hp3:=hp2.new (o:=HO.lst ((["One", "two 3", "a", " ", "x-y", "Zz9", "~", "Word word", "4", ", ", "_b", "\n", "\\", "\""]:List Str).map V.str)) hl3
  obtain ⟨nmd,nml⟩:=hp2.ne hl3
  have gm:∀ x∈(["One", "two 3", "a", " ", "x-y", "Zz9", "~", "Word word", "4", ", ", "_b", "\n", "\\", "\""]:List Str),x.length≤9∧∀ c∈x.cps.toList,goodS c:=by decide +kernel
  have hml:(["One", "two 3", "a", " ", "x-y", "Zz9", "~", "Word word", "4", ", ", "_b", "\n", "\\", "\""]:List Str).length=14:=rfl
  refine drawN (σ:=[some (.ref d),some (.ref l3),some (.str ""),none]) (i:=0) (m:=6) rfl hp3 (by decide) (by decide) fun r H2 r0 r1 p2 o2=>?_
  have e3m:H2 l3=some (.lst ((["One", "two 3", "a", " ", "x-y", "Zz9", "~", "Word word", "4", ", ", "_b", "\n", "\\", "\""]:List Str).map V.str)):=o2 l3 _ upd_same nmd nml
  have oB:=oA.trans o2
  refine ⟨r,rfl,by omega,by omega,?_⟩
  generalize (["One", "two 3", "a", " ", "x-y", "Zz9", "~", "Word word", "4", ", ", "_b", "\n", "\\", "\""]:List Str)=MENU at e3m gm hml
  refine for_range (lo:=0) (n:=r.toNat) (fun j σ H4=>∃ (x:Str) (v3:Option V),σ=[some (.ref d),some (.ref l3),some (.str x),v3]∧PotAt d lo H4∧Old d lo H H4∧H4 l3=some (.lst (MENU.map V.str))∧x.length≤9 * j∧∀ c∈x.cps.toList,goodS c)
    ⟨"",none,rfl,p2,oB,e3m,by decide +kernel,by decide +kernel⟩ ?_ ?_
  · rintro j σ H4 hj ⟨x,v3,rfl,p4,o4,e4m,hx,gx⟩
    have hj41:j < 6:=by omega
    refine ⟨_,rfl,_,rfl,?_⟩
    refine drawN (σ:=[some (.ref d),some (.ref l3),some (.str x),some (.int (0+(j:Int)))]) (i:=0) (m:=14) rfl p4 (by decide) (by decide) fun r5 H5 w0 w1 p5 o5=>?_
    obtain ⟨y,hy,hm⟩:=atI_lt (xs:=MENU.map V.str) w0 (by rw [List.length_map,hml]; exact w1)
    obtain ⟨m,hmm,rfl⟩:=List.mem_map.mp hm
    obtain ⟨g1,g2⟩:=gm m hmm
    refine ⟨l3,_,r5,_,rfl,rfl,SqL.of (o5 l3 _ e4m nmd nml),hy,_,_,rfl,rfl,small (by omega),?_⟩
    refine ⟨x++m,_,rfl,p5,o4.trans o5,o5 l3 _ e4m nmd nml,?_,good_str gx g2⟩
    have e:(x++m).length=x.length+m.length:=by
      show (x.cps++m.cps).size=_
      rw [Array.size_append]
      rfl
    rw [e]
    omega
  · rintro σ H4 ⟨x,v3,rfl,p4,o4,e4m,hx,gx⟩
    refine drawN (σ:=[some (.ref d),some (.ref l3),some (.str x),v3]) (i:=0) (m:=16) rfl p4 (by decide) (by decide) fun r5 H5 w0 w1 p5 o5=>?_
    refine ⟨rfl,_,rfl,?_⟩
    have fin:∀ (z:Str),z.length≤20000→(∀ c∈z.cps.toList,goodS c)→Q (.str (Txt.slice z none (some 400))) H5:=fun z hz gz=>by
      have es:Txt.slice z none (some 400)=⟨(z.cps.toList.take 400).toArray⟩:=SLi.upto z 400
      rw [es]
      exact k _ H5 (by rw [List.length_take]; omega) (fun c hc=>gz c (List.mem_of_mem_take hc)) p5 (o4.trans o5)
    refine ite2 (fun h1=>?_) (fun h1=>?_)
    · have e:(x ++ "q ").length=x.length+2:=by
        show (x.cps++("q " : Str).cps).size=_
        rw [Array.size_append]
        rfl
      have gy:∀ c∈(x ++ "q ").cps.toList,goodS c:=good_str gx (by decide +kernel)
      refine ⟨_,rfl,_,_,rfl,rfl,small (by rw [show (("q " : Str)).length=2 from rfl]; omega),?_⟩
      generalize x ++ "q " = y at e gy
      have hyl:y.cps.toList.length≤60:=by
        have:y.cps.size=x.length+2:=e
        rw [Array.length_toList]
        omega
      rw [str_self y]
      refine ⟨y.cps.toList,200,rfl,rfl,by decide,by omega,?_⟩
      have hl:(List.replicate 200 y.cps.toList).flatten.length≤20000:=by
        rw [len_rep]
        omega
      refine ⟨_,rfl,_,rfl,_,rfl,?_,fin _ ?_ ?_⟩
      · show (List.replicate 200 y.cps.toList).flatten.toArray.size≤_
        rw [List.size_toArray]
        exact Nat.le_trans hl (Nat.le_trans (by decide) sizeLine_big)
      · show (List.replicate 200 y.cps.toList).flatten.toArray.size≤_
        rw [List.size_toArray]
        exact hl
      · intro c hc
        have hc':c∈(List.replicate 200 y.cps.toList).flatten:=by
          have e:(List.replicate 200 y.cps.toList).flatten.toArray.toList=(List.replicate 200 y.cps.toList).flatten:=List.toList_toArray
          rw [← e]
          exact hc
        exact gy c (mem_rep hc')
    · refine ⟨_,rfl,_,rfl,x,rfl,small (by omega),fin x (by omega) gx⟩
end
def spSides:Sp:=fun vs H Q _=>∃ (d lo l:Addr) (xs:Nms),vs=[.ref d,.ref l]∧PotAt d lo H∧H l=some (.lst (xs.map mkT))∧l≠d∧l≠lo∧30≤xs.length∧xs.length≤1000∧(∀ x∈xs,isNm ⟨x.toArray⟩=true) ∧
  ∀ (q:Addr) (Ps:List (List Prt)) (rest:Nms) (H':Hp),Den H' (.ref q) (.tup (Ps.map fun L=>.tup (L.map partD)))→Ps.length=2→(∀ L∈Ps,L.length≤12∧∀ p∈L,GoodP p)→xs.Perm (Ps.flatten.map (·.1)++rest)→H' l=some (.lst (rest.map mkT))→PotAt d lo H'→Old3 d lo l H H'→Q (.ref q) H'
section
variable {P:Program} {w:World} {K:PySem.W.Frag} {mg:Str→Option Value} {base:Heap}
theorem Old3.of {d lo l:Addr} {H H':Hp} (s:Same H H'):Old3 d lo l H H':=fun c o e _ _ _=>s c o e
theorem Old3.of2 {d lo l:Addr} {H H':Hp} (s:Old d lo H H'):Old3 d lo l H H':=fun c o e h1 h2 _=>s c o e h1 h2
theorem Old3.trans {d lo l:Addr} {H H1 H2:Hp} (a:Old3 d lo l H H1) (b:Old3 d lo l H1 H2):Old3 d lo l H H2:=fun c o e h1 h2 h3=>b c o (a c o e h1 h2 h3) h1 h2 h3
theorem Old3.free {d lo l b:Addr} {H H1:Hp} {o:HO} (a:Old3 d lo l H H1) (hb:H b=none):Old3 d lo l H (L2.upd H1 b o):=fun c o' e h1 h2 h3=>by
  rw [upd_ne (ne_of_none e hb)]
  exact a c o' e h1 h2 h3
theorem old3_keep {d lo l:Addr} {H H':Hp} {ys:List V} (hp:PotAt d lo H) (hl:H l=some (.lst ys)) (o:Old3 d lo l H H'):∀ (b:Addr) (vs:List V),H b=some (.tup vs)→H' b=some (.tup vs):=fun b vs e=>by
  obtain ⟨cs,k,sd,m,e1,e2,r⟩:=hp
  exact o b _ e (ne_of e e1 (by intro z; cases z)) (ne_of e e2 (by intro z; cases z)) (ne_of e hl (by intro z; cases z))
theorem keepT_upd {H:Hp} {l:Addr} {ys zs:List V} (hl:H l=some (.lst ys)):∀ (b:Addr) (vs:List V),H b=some (.tup vs)→upd H l (.lst zs) b=some (.tup vs):=fun b vs e=>by
  rw [upd_ne (ne_of e hl (by intro z; cases z))]
  exact e
theorem scSides:FnScope ["_law_pot_here", "_law_names_here", "_law_sides_here", "_law_side_here", "_law_parts", "_law_k", "_law_moments_here"] ["_law_pot_here", "_law_names_here"] (defScope sSides):=⟨rfl,rfl,rfl,by decide +kernel,rfl,by decide +kernel,by decide +kernel⟩
theorem c_sides (h:Has K mg "_law_sides" sSides ["_law_pot_here", "_law_names_here"]) (C_count:Cal P w K mg base "_law_count" 2 ["_law_pot_here", "_law_most"] spCount) (C_moments:Cal P w K mg base "_law_moments" 2 ["_law_pot_here", "_law_many"] spMoments) (C_text:Cal P w K mg base "_law_text" 2 ["_law_pot_here"] spText) (C_taken:Cal P w K mg base "_law_taken" 2 ["_law_pot_here", "_law_names_here"] spTaken) (m_range:mg "range" = none) (m_tuple:mg "tuple" = none):Cal P w K mg base "_law_sides" 3 ["_law_pot_here", "_law_names_here"] spSides:=by
  refine h.mk' scSides (fun vs H Q E hs=>?_) (fun f cdv A outer s H vs Q E hr hs=>?_)
  · obtain ⟨d,lo,l,xs,rfl,_⟩:=hs
    rfl
  obtain ⟨d,lo,l,xs,rfl,hp,hl,nd,nl,hx0,hx1,hnm,k⟩:=hs
  refine ⟨_,(pss_cons (ps_set (i:=2) scSides.nd rfl (Or.inl rfl) (pe_lst pa_nil))
    (pss_cons (ps_for PassesOwn.never rfl (pi_tup (pe_tup (pa_cons pe_int (pa_cons pe_int pa_nil)))) (pg_name (i:=3) scSides.nd rfl (Or.inl rfl))
      (pss_cons (ps_set (i:=4) scSides.nd rfl (Or.inl rfl) (pe_lst pa_nil))
    (pss_cons (ps_for PassesOwn.never rfl (pi_range1 rfl m_range (pa_cons (pe_cal C_count hr (by decide) rfl (pa_cons (pv 0) (pa_cons pe_int pa_nil))) pa_nil)) (pg_name (i:=5) scSides.nd rfl (Or.inl rfl))
      (pss_cons (ps_set (i:=6) scSides.nd rfl (Or.inl rfl) (pe_cal C_moments hr (by decide) rfl (pa_cons (pv 0) (pa_cons (pe_op op_add pe_int (pe_cal C_count hr (by decide) rfl (pa_cons (pv 0) (pa_cons pe_int pa_nil)))) pa_nil))))
    (pss_one (ps_expr (pe_bm PySem.F.plainAttrs_list PySem.F.slot_list_append PySem.F.type_list_append mt_append (pv 4) (pa_cons (pe_tup (pa_cons (pe_cal C_taken hr (by decide) rfl (pa_cons (pv 0) (pa_cons (pv 1) pa_nil))) (pa_cons (pe_cal C_text hr (by decide) rfl (pa_cons (pv 0) pa_nil)) (pa_cons (pv 6) pa_nil)))) pa_nil))))))
    (pss_one (ps_expr (pe_bm PySem.F.plainAttrs_list PySem.F.slot_list_append PySem.F.type_list_append mt_append (pv 2) (pa_cons (pe_callTy call_tuple_of rfl m_tuple boot_tuple (pa_cons (pv 4) pa_nil)) pa_nil)))))))
    (pss_one (ps_ret (pe_callTy call_tuple_of rfl m_tuple boot_tuple (pa_cons (pv 2) pa_nil)))))),?_⟩
  refine ⟨smn 0,fun ls hls=>?_⟩
  obtain ⟨nsd,nsl⟩:=hp.ne hls
  have nsL:ls≠l:=(ne_of_none hl hls).symm
  have s1:=same_new hls (.lst [])
  refine ⟨smn 2,fun tt htt=>?_⟩
  have s2:=same_new htt (.tup [.int 0,.int 1])
  refine ⟨tt,rfl,⟨_,SqT.of upd_same⟩,?_⟩
  refine for_tup (K:=K) (a:=tt) (xs:=[.int 0,.int 1]) (fun i σ H4=>∃ (v3 v4 v5 v6:Option V) (us:List V) (Ps:List (List Prt)) (rest:Nms),σ=[some (.ref d),some (.ref l),some (.ref ls),v3,v4,v5,v6]∧PotAt d lo H4∧H4 l=some (.lst (rest.map mkT))∧H4 ls=some (.lst us)∧H4 tt=some (.tup [.int 0,.int 1]) ∧
      DenL H4 us (Ps.map fun L=>D.tup (L.map partD))∧Ps.length=i∧(∀ L∈Ps,L.length≤12∧∀ p∈L,GoodP p)∧xs.Perm (Ps.flatten.map (·.1)++rest)∧Old3 d lo l H H4)
    ⟨none,none,none,none,[],[],xs,rfl,(hp.same s1).same s2,s2 _ _ (s1 _ _ hl),s2 _ _ upd_same,upd_same,trivial,rfl,(fun L hL=>by cases hL),List.Perm.refl _,Old3.of (s1.trans s2)⟩ ?_ ?_ ?_
  · rintro i σ H4 _ ⟨v3,v4,v5,v6,us,Ps,rest,rfl,p4,e4l,e4s,e4t,r⟩
    exact SqT.of e4t
  · rintro i y σ H4 hi ⟨v3,v4,v5,v6,us,Ps,rest,rfl,p4,e4l,e4s,e4t,dn,hPl,hPg,hpm,o4⟩
    refine gN ⟨smn 0,fun lp hlp=>?_⟩
    obtain ⟨npd,npl⟩:=p4.ne hlp
    have npL:lp≠l:=(ne_of_none e4l hlp).symm
    have nps:lp≠ls:=(ne_of_none e4s hlp).symm
    have s5:=same_new hlp (.lst [])
    refine ⟨_,rfl,d,lo,5,rfl,p4.same s5,by decide,by decide,fun r H5 r0 r1 p5 o5=>?_⟩
    refine ⟨r,rfl,by omega,by omega,?_⟩
    have k5:=old_keep (p4.same s5) o5
    refine for_range (lo:=0) (n:=r.toNat) (fun j σ H6=>∃ (v5 v6:Option V) (ws:List V) (qs:List Prt) (rest':Nms),σ=[some (.ref d),some (.ref l),some (.ref ls),some y,some (.ref lp),v5,v6]∧PotAt d lo H6∧H6 l=some (.lst (rest'.map mkT))∧H6 ls=some (.lst us)∧H6 tt=some (.tup [.int 0,.int 1])∧H6 lp=some (.lst ws) ∧
        DenL H6 us (Ps.map fun L=>D.tup (L.map partD))∧DenL H6 ws (qs.map partD)∧qs.length=j∧(∀ p∈qs,GoodP p)∧xs.Perm (Ps.flatten.map (·.1)++qs.map (·.1)++rest')∧Old3 d lo l H H6)
      ⟨_,_,[],[],rest,rfl,p5,o5 l _ (s5 _ _ e4l) nd nl,o5 ls _ (s5 _ _ e4s) nsd nsl,k5 tt _ (s5 _ _ e4t),o5 lp _ upd_same npd npl,(dn.same s5).keepT k5,trivial,rfl,(fun p hp=>by cases hp),by rw [List.map_nil,List.append_nil]; exact hpm,(o4.trans (Old3.of s5)).trans (Old3.of2 o5)⟩ ?_ ?_
    · rintro j σ H6 hj ⟨v5,v6,ws,qs,rest',rfl,p6,e6l,e6s,e6t,e6p,dn6,dw6,hql,hqg,hpm6,o6⟩
      have hj12:j < 12:=by omega
      have hrl:Ps.flatten.length+j+rest'.length=xs.length:=by
        have:=hpm6.length_eq
        rw [List.length_append,List.length_append,List.length_map,List.length_map] at this
        omega
      refine gN ⟨_,rfl,_,rfl,d,lo,2,rfl,p6,by decide,by decide,fun c H7 c0 c1 p7 o7=>?_⟩
      obtain ⟨cn,rfl⟩:=Int.eq_ofNat_of_zero_le c0
      refine ⟨_,_,rfl,rfl,d,lo,1+cn,by show [V.ref d,V.int (1+((cn:Nat):Int))]=_; rw [show (1:Int)+((cn:Nat):Int)=((1+cn:Nat):Int) by omega],p7,by omega,fun q8 ms H8 e8q gm hml p8 o8=>?_⟩
      have k7:=old_keep p6 o7
      have k8:=old_keep p7 o8
      have e8l:H8 l=_:=o8 l _ (o7 l _ e6l nd nl) nd nl
      have e8s:H8 ls=_:=o8 ls _ (o7 ls _ e6s nsd nsl) nsd nsl
      have e8p:H8 lp=_:=o8 lp _ (o7 lp _ e6p npd npl) npd npl
      have hrne:rest'≠[]:=fun z=>by
        subst z
        have hP2:Ps.flatten.length≤12:=by
          have hi2:i < 2:=(List.getElem?_eq_some_iff.mp hi).1
          match Ps,hPl,hPg with
          | [],_,_=>simp
          | [L],_,hPg=>simpa using (hPg L (.head _)).1
          | _ :: _ :: _,hPl,_=>simp only [List.length_cons] at hPl; omega
        simp only [List.length_nil] at hrl
        omega
      refine gN ⟨_,rfl,.inl ⟨rfl,_,SqL.of e8p⟩,_,rfl,_,rfl,d,lo,l,rest',rfl,p8,e8l,nd,nl,hrne,by omega,fun i9 hi9 H9 e9 p9 o9=>?_⟩
      refine ⟨_,rfl,d,lo,rfl,p9,fun tx H10 htx gtx p10 o10=>?_⟩
      refine ⟨_,rfl,smn 3,fun tp htp=>?_⟩
      have k9:=old3_keep p8 e8l o9
      have k10:=old_keep p9 o10
      have e10p:H10 lp=_:=o10 lp _ (o9 lp _ e8p npd npl npL) npd npl
      have e10s:H10 ls=_:=o10 ls _ (o9 ls _ e8s nsd nsl nsL) nsd nsl
      have e10l:H10 l=_:=o10 l _ e9 nd nl
      have s11:=same_new htp (.tup [mkT rest'[i9],.str ⟨tx.toArray⟩,.ref q8])
      have kA:∀ (b:Addr) (vs:List V),H6 b=some (.tup vs)→H10 b=some (.tup vs):=fun b vs e=>k10 b vs (k9 b vs (k8 b vs (k7 b vs e)))
      have kT:=keepT_upd (zs:=ws++[.ref tp]) (s11 _ _ e10p)
      refine ⟨lp,ws,_,rfl,rfl,s11 _ _ e10p,?_,?_⟩
      · have:=dw6.len
        rw [List.length_map] at this
        exact small1000 (by omega)
      · refine ⟨_,_,ws++[.ref tp],qs++[(rest'[i9],tx,ms)],rest'.eraseIdx i9,rfl,(p10.same s11).upd npd npl,(upd_ne npL.symm).trans (s11 _ _ e10l),(upd_ne nps.symm).trans (s11 _ _ e10s),kT _ _ (s11 _ _ (kA _ _ e6t)),upd_same,((dn6.keepT kA).same s11).keepT kT,?_,by rw [List.length_append,hql]; rfl,?_,?_,?_⟩
        · rw [List.map_append]
          refine DenL.snoc (Den.keepT kT (show Den (upd H10 tp (.tup [mkT rest'[i9],.str ⟨tx.toArray⟩,.ref q8])) (.ref tp) (partD (rest'[i9],tx,ms)) from ⟨tp,_,rfl,upd_same,rfl,rfl,⟨q8,_,rfl,s11 _ _ (k10 _ _ (k9 _ _ e8q)),denI_of _ ms⟩,trivial⟩)) (((dw6.keepT kA).same s11).keepT kT)
        · intro p hp'
          rcases List.mem_append.mp hp' with z | z
          · exact hqg p z
          · rw [List.mem_singleton.mp z]
            refine ⟨hnm _ (hpm6.mem_iff.mpr (List.mem_append_right _ (List.getElem_mem hi9))),by show tx.length≤_; omega,gtx,gm,fun z=>?_⟩
            have:ms=[]:=z
            rw [this] at hml
            simp at hml
            omega
        · refine hpm6.trans ?_
          rw [List.map_append,List.append_assoc,List.append_assoc,List.append_assoc]
          exact ((perm_pull hi9).append_left _).append_left _
        · refine Old3.free ?_ ?_
          · exact (((((o6.trans (Old3.of2 o7)).trans (Old3.of2 o8)).trans o9).trans (Old3.of2 o10)).trans (Old3.of s11))
          · cases hc:H lp with
            | none=>rfl
            | some o' =>
              have:=o4 lp o' hc npd npl npL
              rw [hlp] at this
              cases this
    · rintro σ H6 ⟨v5,v6,ws,qs,rest',rfl,p6,e6l,e6s,e6t,e6p,dn6,dw6,hql,hqg,hpm6,o6⟩
      refine ⟨_,rfl,.inl ⟨rfl,_,SqL.of e6s⟩,_,rfl,lp,_,rfl,.inl ⟨SqL.of e6p,fun q hq=>?_⟩⟩
      have s7:=same_new hq (.tup ws)
      refine ⟨ls,us,_,rfl,rfl,s7 _ _ e6s,?_,?_⟩
      · have:=dn6.len
        rw [List.length_map] at this
        have hi2:i < 2:=(List.getElem?_eq_some_iff.mp hi).1
        exact small1000 (by omega)
      · have kT:=keepT_upd (zs:=us++[.ref q]) (s7 _ _ e6s)
        refine ⟨_,_,_,_,us++[.ref q],Ps++[qs],rest',rfl,(p6.same s7).upd nsd nsl,(upd_ne nsL.symm).trans (s7 _ _ e6l),upd_same,kT _ _ (s7 _ _ e6t),?_,by rw [List.length_append,hPl]; rfl,fun L hL=>?_,?_,(o6.trans (Old3.of s7)).free hls⟩
        · rw [List.map_append]
          exact DenL.snoc (Den.keepT kT (show Den (upd H6 q (.tup ws)) (.ref q) (.tup (qs.map partD)) from ⟨q,ws,rfl,upd_same,dw6.same s7⟩)) ((dn6.same s7).keepT kT)
        · rcases List.mem_append.mp hL with z | z
          · exact hPg L z
          · rw [List.mem_singleton.mp z]
            exact ⟨by omega,hqg⟩
        · rw [List.flatten_append,List.map_append]
          simpa using hpm6
  · rintro σ H4 ⟨v3,v4,v5,v6,us,Ps,rest,rfl,p4,e4l,e4s,e4t,dn,hPl,hPg,hpm,o4⟩
    refine ⟨_,rfl,ls,_,rfl,.inl ⟨SqL.of e4s,fun q hq=>?_⟩⟩
    have s5:=same_new hq (.tup us)
    exact k q Ps rest _ ⟨q,us,rfl,upd_same,dn.same s5⟩ hPl hPg hpm (s5 _ _ e4l) (p4.same s5) (o4.trans (Old3.of s5))
end
def spNames:Sp:=fun vs H Q _=>∃ (d lo:Addr),vs=[.ref d]∧PotAt d lo H∧∀ (l:Addr) (xs:Nms) (H':Hp),H l=none→H' l=some (.lst (xs.map mkT))→Row70 xs→PotAt d lo H'→Old d lo H H'→Q (.ref l) H'
def letS (t:Nat):Str:=⟨((List.range 26).map (ltr t)).toArray⟩
theorem let_list:LET.cps.toList=(List.range 26).map (97 + ·):=by decide +kernel
theorem let_turned {t:Nat} (h:t < 26):Txt.slice LET (some (t:Int)) none++Txt.slice LET none (some (t:Int))=letS t:=by
  rw [SLi.from_,SLi.upto,let_list]
  show (⟨_++_⟩:Str)=_
  rw [List.append_toArray,turned_at h (i:=0) (by decide)]
  rfl
theorem letS_len (t:Nat):(letS t).length=26:=by
  show ((List.range 26).map (ltr t)).toArray.size=26
  simp
theorem letS_at {t i:Nat} (hi:i < 26) {x:Int} (hx:x=(i:Nat)):atI (letS t).cps.toList x=some (ltr t i):=by
  subst hx
  refine atI_nat ?_
  show (((List.range 26).map (ltr t)).toArray).toList[i]?=_
  simp [List.getElem?_range hi]
theorem rep1 (n c:Nat):(List.replicate n [c]).flatten=List.replicate n c:=by
  induction n with
  | zero=>rfl
  | succ n ih=>rw [List.replicate_succ,List.flatten_cons,ih]; rfl
theorem str_app (a b:List Nat):(⟨a.toArray⟩:Str)++(⟨b.toArray⟩:Str)=⟨(a++b).toArray⟩:=by
  show (⟨_++_⟩:Str)=_
  rw [List.append_toArray]
theorem len_mk (a:List Nat):(⟨a.toArray⟩:Str).length=a.length:=by show a.toArray.size=_; simp
theorem range_snoc (f:Nat→List Nat) (i:Nat):((List.range i).map f).map mkT++[mkT (f i)]=((List.range (i+1)).map f).map mkT:=by
  rw [List.range_succ,List.map_append,List.map_append]
  rfl
theorem Old.none {d lo b:Addr} {H H':Hp} (o:Old d lo H H') (hp:PotAt d lo H) (hp':PotAt d lo H') (hb:H' b=none):H b=none:=by
  obtain ⟨h1,h2⟩:=hp'.ne hb
  cases e:H b with
  | none=>rfl
  | some u =>
    have:=o b u e h1 h2
    rw [hb] at this
    cases this
section
variable {P:Program} {w:World} {K:PySem.W.Frag} {mg:Str→Option Value} {base:Heap}
theorem scNames:FnScope ["_law_pot_here", "_law_letters", "_law_turn", "_law_way", "_law_at", "_law_ahead", "_law_behind"] ["_law_pot_here"] (defScope sNames):=⟨rfl,rfl,rfl,by decide +kernel,rfl,by decide +kernel,by decide +kernel⟩
theorem c_names (h:Has K mg "_law_names" sNames ["_law_pot_here"]) (C_next:Cal P w K mg base "_law_next" 1 ["_law_pot_here", "_law_many"] spNext) (m_range:mg "range" = none):Cal P w K mg base "_law_names" 2 ["_law_pot_here"] spNames:=by
  refine h.mk' scNames (fun vs H Q E hs=>?_) (fun f cdv A outer s H vs Q E hr hs=>?_)
  · obtain ⟨d,lo,rfl,_⟩:=hs
    rfl
  obtain ⟨d,lo,rfl,hp,k⟩:=hs
  refine ⟨_,(pss_cons (ps_set (i:=1) scNames.nd rfl (Or.inr rfl) pe_str)
    (pss_cons (ps_set (i:=2) scNames.nd rfl (Or.inl rfl) (pe_cal C_next hr (by decide) rfl (pa_cons (pv 0) (pa_cons pe_int pa_nil))))
    (pss_cons (ps_set (i:=1) scNames.nd rfl (Or.inr rfl) (pe_op op_add_str (pe_slice sl_str (pv 1) (po_some (pv 2)) po_none) (pe_slice sl_str (pv 1) po_none (po_some (pv 2)))))
    (pss_cons (ps_set (i:=3) scNames.nd rfl (Or.inl rfl) (pe_cal C_next hr (by decide) rfl (pa_cons (pv 0) (pa_cons pe_int pa_nil))))
    (pss_cons (ps_if (pt_cmpR op_eq (pv 3) pe_int (nomark _))
      (pss_one (ps_ret (pe_compL ["_law_pot_here", "_law_letters", "_law_turn", "_law_way", "_law_at", "_law_ahead", "_law_behind"] (defScope sNames) ["_law_letters", "_law_k"] [some 1,none] rfl rfl rfl (pi_range1 rfl m_range (pa_cons pe_int pa_nil)) rfl (by decide +kernel) (by decide +kernel) (by decide +kernel) (by decide +kernel) (hg:=fun cl C s H ex pn E=>(pg_name (i:=1) (by decide +kernel:(["_law_letters", "_law_k"]:List Str).Nodup) rfl (Or.inl rfl))) (ht:=fun cl C s H ex pn E=>pifs_nil) (he:=fun cl C s H ex pn E=>(pe_op op_add_str (pe_ix ix_str (pv 0) (pe_op op_mod (pv 1) pe_int) (fun _ _=>rfl)) (pe_op op_mulS (pe_ix ix_str (pv 0) (pe_op op_fdivB (pv 1) pe_int) (fun _ _=>rfl)) (pe_op op_mod (pv 1) pe_int)))))))
      pss_nil)
    (pss_cons (ps_if (pt_cmpR op_eq (pv 3) pe_int (nomark _))
      (pss_one (ps_ret (pe_compL ["_law_pot_here", "_law_letters", "_law_turn", "_law_way", "_law_at", "_law_ahead", "_law_behind"] (defScope sNames) ["_law_letters", "_law_k"] [some 1,none] rfl rfl rfl (pi_range1 rfl m_range (pa_cons pe_int pa_nil)) rfl (by decide +kernel) (by decide +kernel) (by decide +kernel) (by decide +kernel) (hg:=fun cl C s H ex pn E=>(pg_name (i:=1) (by decide +kernel:(["_law_letters", "_law_k"]:List Str).Nodup) rfl (Or.inl rfl))) (ht:=fun cl C s H ex pn E=>pifs_nil) (he:=fun cl C s H ex pn E=>(pe_op op_mulS (pe_ix ix_str (pv 0) (pe_op op_fdivB (pv 1) pe_int) (fun _ _=>rfl)) (pe_op op_add pe_int (pe_op op_mod (pv 1) pe_int)))))))
      pss_nil)
    (pss_cons (ps_set (i:=4) scNames.nd rfl (Or.inl rfl) (pe_cal C_next hr (by decide) rfl (pa_cons (pv 0) (pa_cons pe_int pa_nil))))
    (pss_cons (ps_asg (pe_tup (pa_cons (pe_op op_mulS (pe_ix ix_str (pv 1) pe_int (fun _ _=>rfl)) (pv 4)) (pa_cons (pe_op op_mulS (pe_ix ix_str (pv 1) pe_int (fun _ _=>rfl)) (pe_op op_sub pe_int (pv 4))) pa_nil))) (pg_tup (n:=2) rfl (pgs_cons (pg_name (i:=5) scNames.nd rfl (Or.inr rfl)) (pgs_cons (pg_name (i:=6) scNames.nd rfl (Or.inr rfl)) pgs_nil))))
    (pss_one (ps_ret (pe_compL ["_law_pot_here", "_law_letters", "_law_turn", "_law_way", "_law_at", "_law_ahead", "_law_behind"] (defScope sNames) ["_law_letters", "_law_ahead", "_law_behind", "_law_k"] [some 1,some 5,some 6,none] rfl rfl rfl (pi_range1 rfl m_range (pa_cons pe_int pa_nil)) rfl (by decide +kernel) (by decide +kernel) (by decide +kernel) (by decide +kernel) (hg:=fun cl C s H ex pn E=>(pg_name (i:=3) (by decide +kernel:(["_law_letters", "_law_ahead", "_law_behind", "_law_k"]:List Str).Nodup) rfl (Or.inl rfl))) (ht:=fun cl C s H ex pn E=>pifs_nil) (he:=fun cl C s H ex pn E=>(pe_op op_add_str (pe_op op_add_str (pe_op op_add_str (pv 1) (pe_ix ix_str (pv 0) (pe_op op_mod (pv 3) pe_int) (fun _ _=>rfl))) (pe_ix ix_str (pv 0) (pe_op op_fdivB (pv 3) pe_int) (fun _ _=>rfl))) (pv 2)))))))))))))),?_⟩
  refine drawN (σ:=[some (.ref d),some (.str LET),none,none,none,none,none]) (i:=0) (m:=26) rfl hp (by decide) (by decide) fun r H1 r0 r1 p1 o1=>?_
  obtain ⟨t,rfl⟩:=Int.eq_ofNat_of_zero_le r0
  have ht:t < 26:=by omega
  refine ⟨_,rfl,_,rfl,_,rfl,LET,rfl,small (by rw [let_len]; decide),_,rfl,_,rfl,_,rfl,LET,rfl,small (by rw [let_len]; decide),_,_,rfl,rfl,?_,?_⟩
  · exact small (Nat.le_trans (Nat.add_le_add (Txt.slice_le _ _ _) (Txt.slice_le _ _ _)) (by rw [let_len]; decide))
  rw [let_turned ht]
  have hL:(letS t).length≤sizeLine:=small (by rw [letS_len]; decide)
  refine drawN (σ:=[some (.ref d),some (.str (letS t)),some (.int (t:Nat)),none,none,none,none]) (i:=0) (m:=3) rfl p1 (by decide) (by decide) fun r2 H2 q0 q1 p2 o2=>?_
  have o12:=o1.trans o2
  refine ⟨_,rfl,rfl,_,rfl,?_⟩
  refine ite2 (fun z=>?_) (fun z=>?_)
  · refine ⟨70,rfl,by omega,by omega,fun lc hlc=>?_⟩
    have hcH:H lc=none:=o12.none hp p2 hlc
    refine comp_by (J:=Itr 0 70) (l:=lc) 70 (fun i σ' H'=>∃ (v:Option V),σ'=[some (.str (letS t)),v]∧H'=upd H2 lc (.lst (((List.range i).map (nm0 t)).map mkT))) ⟨none,rfl,rfl⟩ ?_ ?_
    · rintro σ' H' ⟨v,rfl,rfl⟩
      exact ⟨Nat.le_refl _,k lc _ _ hcH upd_same (row0 t) (p2.new hlc) (o12.new hlc)⟩
    · rintro i σ' H' hi ⟨v,rfl,rfl⟩
      refine ⟨hi,?_⟩
      rintro y H'' ⟨rfl,rfl⟩
      refine gN (yesT (iteT ?_))
      refine ⟨_,rfl,_,rfl,_,_,rfl,rfl,by show (0:Int) < 26; decide,_,_,_,rfl,rfl,hL,letS_at (i:=i % 26) (by omega) (by omega),?_⟩
      refine ⟨_,rfl,_,rfl,_,_,rfl,rfl,by show (0:Int) < 26∧_; decide,_,_,_,rfl,rfl,hL,letS_at (i:=i / 26) (by omega) (by omega),?_⟩
      refine ⟨_,rfl,_,_,rfl,rfl,by show (0:Int) < 7; decide,[ltr t (i / 26)],i % 7,rfl,congrArg V.int (by omega),by omega,by simp; omega,?_⟩
      rw [rep1]
      refine ⟨⟨[ltr t (i % 26)].toArray⟩,_,rfl,rfl,small (by rw [len_mk,len_mk,List.length_replicate]; simp; omega),?_⟩
      rw [str_app]
      refine ⟨_,upd_same,by rw [List.length_map,List.length_map,List.length_range]; exact small1000 (by omega),_,rfl,?_⟩
      rw [upd_upd,← range_snoc]
      rfl
  refine ⟨_,rfl,rfl,_,rfl,?_⟩
  refine ite2 (fun z1=>?_) (fun z1=>?_)
  · refine ⟨70,rfl,by omega,by omega,fun lc hlc=>?_⟩
    have hcH:H lc=none:=o12.none hp p2 hlc
    refine comp_by (J:=Itr 0 70) (l:=lc) 70 (fun i σ' H'=>∃ (v:Option V),σ'=[some (.str (letS t)),v]∧H'=upd H2 lc (.lst (((List.range i).map (nm1 t)).map mkT))) ⟨none,rfl,rfl⟩ ?_ ?_
    · rintro σ' H' ⟨v,rfl,rfl⟩
      exact ⟨Nat.le_refl _,k lc _ _ hcH upd_same (row1 t) (p2.new hlc) (o12.new hlc)⟩
    · rintro i σ' H' hi ⟨v,rfl,rfl⟩
      refine ⟨hi,?_⟩
      rintro y H'' ⟨rfl,rfl⟩
      refine gN (yesT (iteT ?_))
      refine ⟨_,rfl,_,rfl,_,_,rfl,rfl,by show (0:Int) < 8∧_; decide,_,_,_,rfl,rfl,hL,letS_at (i:=i / 8) (by omega) (by omega),?_⟩
      refine ⟨_,rfl,_,_,rfl,rfl,by show (0:Int) < 8; decide,_,_,rfl,rfl,[ltr t (i / 8)],1+i % 8,rfl,congrArg V.int (by omega),by omega,by simp; omega,?_⟩
      rw [rep1]
      refine ⟨_,upd_same,by rw [List.length_map,List.length_map,List.length_range]; exact small1000 (by omega),_,rfl,?_⟩
      rw [upd_upd,← range_snoc]
      rfl
  refine drawN (σ:=[some (.ref d),some (.str (letS t)),some (.int (t:Nat)),some (.int r2),none,none,none]) (i:=0) (m:=7) rfl p2 (by decide) (by decide) fun r3 H3 u0 u1 p3 o3=>?_
  obtain ⟨a,rfl⟩:=Int.eq_ofNat_of_zero_le u0
  have ha:a≤6:=by omega
  have o13:=o12.trans o3
  refine ⟨_,rfl,_,_,_,rfl,rfl,hL,letS_at (i:=25) (by omega) (by omega),_,rfl,[ltr t 25],a,rfl,rfl,by omega,by simp; omega,?_⟩
  rw [rep1]
  refine ⟨_,rfl,_,_,_,rfl,rfl,hL,letS_at (i:=25) (by omega) (by omega),_,rfl,_,_,rfl,rfl,[ltr t 25],6 - a,rfl,congrArg V.int (by omega),by omega,by simp; omega,?_⟩
  rw [rep1]
  refine ⟨smn 2,fun tp htp=>?_⟩
  have p4:=p3.new (o:=HO.tup [mkT (List.replicate a (ltr t 25)),mkT (List.replicate (6 - a) (ltr t 25))]) htp
  have o14:=o13.new (o:=HO.tup [mkT (List.replicate a (ltr t 25)),mkT (List.replicate (6 - a) (ltr t 25))]) htp
  refine ⟨tp,_,rfl,SqT.of upd_same,rfl,_,_,rfl,_,_,rfl,rfl,?_⟩
  refine ⟨70,rfl,by omega,by omega,fun lc hlc=>?_⟩
  have hcH:H lc=none:=o14.none hp p4 hlc
  generalize upd H3 tp (.tup [mkT (List.replicate a (ltr t 25)),mkT (List.replicate (6 - a) (ltr t 25))])=H4 at p4 o14 hlc
  refine comp_by (J:=Itr 0 70) (l:=lc) 70 (fun i σ' H'=>∃ (v:Option V),σ'=[some (.str (letS t)),some (mkT (List.replicate a (ltr t 25))),some (mkT (List.replicate (6 - a) (ltr t 25))),v]∧H'=upd H4 lc (.lst (((List.range i).map (nm2 t a)).map mkT))) ⟨none,rfl,rfl⟩ ?_ ?_
  · rintro σ' H' ⟨v,rfl,rfl⟩
    exact ⟨Nat.le_refl _,k lc _ _ hcH upd_same (row2 ha) (p4.new hlc) (o14.new hlc)⟩
  · rintro i σ' H' hi ⟨v,rfl,rfl⟩
    refine ⟨hi,?_⟩
    rintro y H'' ⟨rfl,rfl⟩
    refine gN (yesT (iteT ?_))
    refine ⟨_,rfl,_,rfl,_,rfl,_,_,rfl,rfl,by show (0:Int) < 20; decide,_,_,_,rfl,rfl,hL,letS_at (i:=i % 20) (by omega) (by omega),?_⟩
    refine ⟨_,⟨[ltr t (i % 20)].toArray⟩,rfl,rfl,small (by rw [len_mk,len_mk,List.length_replicate]; simp; omega),?_⟩
    rw [str_app]
    refine ⟨_,rfl,_,rfl,_,_,rfl,rfl,by show (0:Int) < 20∧_; decide,_,_,_,rfl,rfl,hL,letS_at (i:=i / 20) (by omega) (by omega),?_⟩
    refine ⟨_,⟨[ltr t (i / 20)].toArray⟩,rfl,rfl,small (by rw [len_mk,len_mk,List.length_append,List.length_replicate]; simp; omega),?_⟩
    rw [str_app]
    refine ⟨_,rfl,_,_,rfl,rfl,small (by rw [len_mk,len_mk,List.length_append,List.length_append,List.length_replicate,List.length_replicate]; simp; omega),?_⟩
    rw [str_app]
    refine ⟨_,upd_same,by rw [List.length_map,List.length_map,List.length_range]; exact small1000 (by omega),_,rfl,?_⟩
    rw [upd_upd,← range_snoc]
    simp only [nm2,List.append_assoc]
    rfl
end
theorem perm_map_inv {α β:Type} {f:α→β} {ds es:List β} (h:ds.Perm es):∀ {ks:List α},es=ks.map f→∃ ks':List α,ks'.Perm ks∧ds=ks'.map f:=by
  induction h with
  | nil =>
    intro ks e
    cases ks with
    | nil=>exact ⟨[],.nil,rfl⟩
    | cons=>cases e
  | cons x p ih =>
    intro ks e
    cases ks with
    | nil=>cases e
    | cons k ks =>
      injection e with e1 e2
      obtain ⟨ks',hp,rfl⟩:=ih e2
      exact ⟨k :: ks',hp.cons k,by rw [e1]; rfl⟩
  | swap x y l =>
    intro ks e
    match ks,e with
    | a :: b :: r,e =>
      injection e with e1 e2
      injection e2 with e2 e3
      exact ⟨b :: a :: r,.swap _ _ _,by rw [e1,e2,e3]; rfl⟩
  | trans p q ih1 ih2 =>
    intro ks e
    obtain ⟨ks1,hp1,rfl⟩:=ih2 e
    obtain ⟨ks2,hp2,rfl⟩:=ih1 rfl
    exact ⟨ks2,hp2.trans hp1,rfl⟩
theorem namesD_inj {a b:Nms} (h:namesD a=namesD b):a=b:=by
  unfold namesD at h
  injection h with h
  have:=congrArg (List.map unD) h
  rwa [map_unD,map_unD] at this
theorem linkD_fst {a b:Lnk} (h:linkD a=linkD b):a.1=b.1:=by
  unfold linkD at h
  injection h with h
  injection h with h _
  exact namesD_inj h
theorem linked0 (ks:List Lnk):linkedN 0 ks=ks.flatMap (·.1):=rfl
theorem links_strict {ks:List Lnk} (hu:UpD (ks.map linkD)) (hn:(linkedN 0 ks).Nodup) (hg:∀ k∈ks,GoodL k):ks.Pairwise fun a b=>dlt (linkD a) (linkD b)=true:=by
  unfold UpD at hu
  rw [List.pairwise_map] at hu
  rw [linked0,List.nodup_iff_pairwise_ne,List.pairwise_flatMap] at hn
  refine List.Pairwise.imp₂ (fun a b h1 h2=>?_) hu (hn.2.imp_of_mem (S:=fun a b=>linkD a≠linkD b) fun {a b} ha hb h e=>?_)
  · cases h:dlt (linkD a) (linkD b) with
    | true=>rfl
    | false=>exact absurd (dlt_tot _ _ h h1) h2
  · have e1:=linkD_fst e
    have hne:=(hg a ha).2.2.1
    cases hc:a.1 with
    | nil=>exact hne hc
    | cons x r=>exact h x (by rw [hc]; exact .head _) x (by rw [← e1,hc]; exact .head _) rfl
theorem linked_perm {ks ks':List Lnk} (n:Nat) (h:ks'.Perm ks):(linkedN n ks').Perm (linkedN n ks):=h.flatMap_right _
theorem linked_snoc (n:Nat) (ks:List Lnk) (k:Lnk):linkedN n (ks++[k])=linkedN n ks++sideOf n k:=by
  unfold linkedN
  rw [List.flatMap_append]
  simp
theorem goodB_of {L R:List Prt} {ks ks':List Lnk} {r0 r1 al al0:Nms} (hL:L.length≤12) (hR:R.length≤12) (hg:∀ p∈L++R,GoodP p) (hnd:((L++R).map (·.1)).Nodup) (hk:∀ k∈ks,GoodL k) (hkl:ks.length≤12) (h0:(L.map (·.1)).Perm (linkedN 0 ks++r0)) (h1:(R.map (·.1)).Perm (linkedN 1 ks++r1)) (hp:ks'.Perm ks) (hu:UpD (ks'.map linkD)) (hal:al0.Sublist (r0++r1)) (hpa:al.Perm al0) (hua:UpD (al.map sD)):GoodB L R ks' al:=by
  have hsub:∀ x∈al,x∈r0++r1:=fun x hx=>hal.subset (hpa.mem_iff.mp hx)
  have q0:=linked_perm 0 hp
  have q1:=linked_perm 1 hp
  have hbig:((linkedN 0 ks'++linkedN 1 ks')++(r0++r1)).Nodup:=by
    have:((L++R).map (·.1)).Perm ((linkedN 0 ks'++linkedN 1 ks')++(r0++r1)):=by
      rw [List.map_append]
      refine (h0.append h1).trans ?_
      rw [List.append_assoc,List.append_assoc]
      refine (q0.symm.append ?_)
      refine (List.perm_append_comm_assoc _ _ _).trans ?_
      exact q1.symm.append (List.Perm.refl _)
    exact this.nodup_iff.mp hnd
  have hnd2:(linkedN 0 ks'++linkedN 1 ks'++al).Nodup:=by
    have s:((linkedN 0 ks'++linkedN 1 ks')++al0).Sublist ((linkedN 0 ks'++linkedN 1 ks')++(r0++r1)):=(List.Sublist.refl _).append hal
    exact ((hpa.append_left (linkedN 0 ks'++linkedN 1 ks')).nodup_iff).mpr (hbig.sublist s)
  have ndl:(linkedN 0 ks').Nodup:=(hnd2.sublist (List.sublist_append_left _ _)).sublist (List.sublist_append_left _ _)
  have nda:al.Nodup:=hnd2.sublist (List.sublist_append_right _ _)
  have hk':∀ k∈ks',GoodL k:=fun k hk'=>hk k (hp.mem_iff.mp hk')
  have inL:∀ x∈linkedN 0 ks',x∈L.map (·.1):=fun x hx=>h0.mem_iff.mpr (List.mem_append_left _ (q0.mem_iff.mp hx))
  have inR:∀ x∈linkedN 1 ks',x∈R.map (·.1):=fun x hx=>h1.mem_iff.mpr (List.mem_append_left _ (q1.mem_iff.mp hx))
  have inA:∀ x∈al,x∈(L++R).map (·.1):=fun x hx=>by
    rw [List.map_append]
    rcases List.mem_append.mp (hsub x hx) with z | z
    · exact List.mem_append_left _ (h0.mem_iff.mpr (List.mem_append_right _ z))
    · exact List.mem_append_right _ (h1.mem_iff.mpr (List.mem_append_right _ z))
  have len0:(L.map (·.1)).length=(linkedN 0 ks).length+r0.length:=by rw [h0.length_eq,List.length_append]
  have len1:(R.map (·.1)).length=(linkedN 1 ks).length+r1.length:=by rw [h1.length_eq,List.length_append]
  have lena:al.length≤r0.length+r1.length:=by
    rw [hpa.length_eq,← List.length_append]
    exact hal.length_le
  rw [List.length_map] at len0 len1
  refine ⟨hg,hnd,by omega,by omega,hk',links_strict hu ndl hk',by rw [hp.length_eq]; omega,⟨fun x hx=>?_,up_strict hua nda,by omega⟩,inL,inR,hnd2,?_,inA⟩
  · obtain ⟨p,hp',rfl⟩:=List.mem_map.mp (inA x hx)
    exact (hg p hp').1
  · rw [List.length_append,List.length_append,q0.length_eq,q1.length_eq]
    omega
theorem hom_links (ks:List Lnk):Hom (ks.map linkD):=by
  refine ⟨fun a ha b hb=>?_,.inr (.inr fun d hd=>?_)⟩
  · obtain ⟨x,_,rfl⟩:=List.mem_map.mp ha
    obtain ⟨y,_,rfl⟩:=List.mem_map.mp hb
    exact sim_link _ _
  · obtain ⟨x,_,rfl⟩:=List.mem_map.mp hd
    exact ⟨_,_,rfl⟩
def spStood:Sp:=fun vs H Q _=>∃ (d lo:Addr) (v:V) (L R:List Prt),vs=[.ref d,v]∧PotAt d lo H∧Den H v (.tup [.tup (L.map partD),.tup (R.map partD)])∧L.length≤12∧R.length≤12∧(∀ p∈L++R,GoodP p)∧((L++R).map (·.1)).Nodup ∧
  ∀ (q a b:Addr) (ks:List Lnk) (al:Nms) (H':Hp),H' q=some (.tup [.ref a,.ref b])→Den H' (.ref a) (.tup (ks.map linkD))→Den H' (.ref b) (namesD al)→GoodB L R ks al→PotAt d lo H'→Old d lo H H'→Q (.ref q) H'
theorem ite_go {b:Bool} {p q:Prop} (h:b=true) (x:p):if b=true then p else q:=by
  rw [if_pos h]
  exact x
theorem same_none {H H':Hp} {b:Addr} (s:Same H H') (h:H' b=none):H b=none:=by
  cases e:H b with
  | none=>rfl
  | some o =>
    have:=s b o e
    rw [h] at this
    cases this
theorem nms_mkT (L:List Prt):nmsOf L=(L.map (·.1)).map mkT:=by
  unfold nmsOf
  rw [List.map_map]
  rfl
section
variable {P:Program} {w:World} {K:PySem.W.Frag} {mg:Str→Option Value} {base:Heap}
theorem scStood:FnScope ["_law_pot_here", "_law_sides_here", "_law_left", "_law_links", "_law_k", "_law_ones", "_law_others", "_law_lost", "_law_alone"] ["_law_pot_here", "_law_sides_here"] (defScope sStood):=⟨rfl,rfl,rfl,by decide +kernel,rfl,by decide +kernel,by decide +kernel⟩
theorem c_stood (h:Has K mg "_law_stood" sStood ["_law_pot_here", "_law_sides_here"]) (C_count:Cal P w K mg base "_law_count" 2 ["_law_pot_here", "_law_most"] spCount) (C_some:Cal P w K mg base "_law_some" 3 ["_law_pot_here", "_law_names_here", "_law_most"] spSome) (C_moments:Cal P w K mg base "_law_moments" 2 ["_law_pot_here", "_law_many"] spMoments) (C_next:Cal P w K mg base "_law_next" 1 ["_law_pot_here", "_law_many"] spNext) (m_range:mg "range" = none) (m_tuple:mg "tuple" = none) (m_sorted:mg "sorted" = none):Cal P w K mg base "_law_stood" 4 ["_law_pot_here", "_law_sides_here"] spStood:=by
  refine h.mk' scStood (fun vs H Q E hs=>?_) (fun f cdv A outer s H vs Q E hr hs=>?_)
  · obtain ⟨d,lo,v,L,R,rfl,_⟩:=hs
    rfl
  obtain ⟨d,lo,v,L,R,rfl,hp,hv,hL,hR,hg,hnd,k⟩:=hs
  refine ⟨_,(pss_cons (ps_setC (ix:=2) scStood.nd rfl rfl ["_law_pot_here", "_law_sides_here", "_law_left", "_law_links", "_law_k", "_law_ones", "_law_others", "_law_lost", "_law_alone"] (defScope sStood) ["_law_side_here"] [none] rfl rfl rfl (pi_tup (pv 1)) rfl (by decide +kernel) (by decide +kernel) (by decide +kernel) (by decide +kernel) (hg:=fun cl C s H ex pn E=>(pg_name (i:=0) (by decide +kernel:(["_law_side_here"]:List Str).Nodup) rfl (Or.inl rfl))) (ht:=fun cl C s H ex pn E=>pifs_nil) (he:=fun cl C s H ex pn E=>(pe_compL ["_law_side_here"] _ ["_law_part"] [none] rfl rfl rfl (pi_tupK (K:=K) rfl (pv 0)) rfl (by decide +kernel) (by decide +kernel) (noFree (by decide +kernel)) (by decide +kernel) (hg:=fun cl C s H ex pn E=>(pg_name (i:=0) (by decide +kernel:(["_law_part"]:List Str).Nodup) rfl (Or.inl rfl))) (ht:=fun cl C s H ex pn E=>pifs_nil) (he:=fun cl C s H ex pn E=>(pe_ix (ix_tupK (K:=K) rfl) (pv 0) pe_int (fun _ _=>rfl))))))
    (pss_cons (ps_set (i:=3) scStood.nd rfl (Or.inl rfl) (pe_lst pa_nil))
    (pss_cons (ps_for PassesOwn.never rfl (pi_range1 rfl m_range (pa_cons (pe_cal C_count hr (by decide) rfl (pa_cons (pv 0) (pa_cons pe_int pa_nil))) pa_nil)) (pg_name (i:=4) scStood.nd rfl (Or.inl rfl))
      (pss_one (ps_if (PW.pt (pw_and (pt_cmpR (op_neE hr.units0) (pe_ix ix_list (pv 2) pe_int (fun _ _=>rfl)) (pe_lst pa_nil) (nomark _)) (pw_and1 (pt_cmpR (op_neE hr.units0) (pe_ix ix_list (pv 2) pe_int (fun _ _=>rfl)) (pe_lst pa_nil) (nomark _)))))
      (pss_cons (ps_set (i:=5) scStood.nd rfl (Or.inl rfl) (pe_cal C_some hr (by decide) rfl (pa_cons (pv 0) (pa_cons (pe_ix ix_list (pv 2) pe_int (fun _ _=>rfl)) (pa_cons pe_int pa_nil)))))
    (pss_cons (ps_set (i:=6) scStood.nd rfl (Or.inl rfl) (pe_cal C_some hr (by decide) rfl (pa_cons (pv 0) (pa_cons (pe_ix ix_list (pv 2) pe_int (fun _ _=>rfl)) (pa_cons pe_int pa_nil)))))
    (pss_cons (ps_set (i:=7) scStood.nd rfl (Or.inl rfl) (pe_tup (pa_cons (pe_cal C_moments hr (by decide) rfl (pa_cons (pv 0) (pa_cons (pe_cal C_next hr (by decide) rfl (pa_cons (pv 0) (pa_cons pe_int pa_nil))) pa_nil))) (pa_cons (pe_cal C_moments hr (by decide) rfl (pa_cons (pv 0) (pa_cons (pe_cal C_next hr (by decide) rfl (pa_cons (pv 0) (pa_cons pe_int pa_nil))) pa_nil))) pa_nil))))
    (pss_one (ps_expr (pe_bm PySem.F.plainAttrs_list PySem.F.slot_list_append PySem.F.type_list_append mt_append (pv 3) (pa_cons (pe_tup (pa_cons (pv 5) (pa_cons (pv 6) (pa_cons (pe_ix ix_tup (pe_cal C_moments hr (by decide) rfl (pa_cons (pv 0) (pa_cons pe_int pa_nil))) pe_int (fun _ _=>rfl)) (pa_cons (pv 7) pa_nil))))) pa_nil)))))))
      pss_nil)))
    (pss_cons (ps_setC (ix:=8) scStood.nd rfl rfl ["_law_pot_here", "_law_sides_here", "_law_left", "_law_links", "_law_k", "_law_ones", "_law_others", "_law_lost", "_law_alone"] (defScope sStood) ["_law_pot_here", "_law_name"] [some 0,none] rfl rfl rfl (pi_list (pe_op op_cat (pe_ix ix_list (pv 2) pe_int (fun _ _=>rfl)) (pe_ix ix_list (pv 2) pe_int (fun _ _=>rfl)))) rfl (by decide +kernel) (by decide +kernel) (by decide +kernel) (by decide +kernel) (hg:=fun cl C s H ex pn E=>(pg_name (i:=1) (by decide +kernel:(["_law_pot_here", "_law_name"]:List Str).Nodup) rfl (Or.inl rfl))) (ht:=fun cl C s H ex pn E=>(pifs_one (pt_cmpR op_eq (pe_cal C_next hr (by decide) rfl (pa_cons (pv 0) (pa_cons pe_int pa_nil))) pe_int (nomark _)))) (he:=fun cl C s H ex pn E=>(pv 1)))
    (pss_one (ps_ret (pe_tup (pa_cons (pe_callTy call_tuple_of rfl m_tuple boot_tuple (pa_cons (pe_callB (call_sortedD hr.units) rfl m_sorted boot_sorted (pa_cons (pv 3) pa_nil)) pa_nil)) (pa_cons (pe_callTy call_tuple_of rfl m_tuple boot_tuple (pa_cons (pe_callB (call_sortedD hr.units) rfl m_sorted boot_sorted (pa_cons (pv 8) pa_nil)) pa_nil)) pa_nil))))))))),?_⟩
  obtain ⟨p,us,rfl,ep,hd⟩:=den_tup hv
  obtain ⟨b0,b1,rfl⟩:∃ b0 b1,us=[b0,b1]:=by
    match us,hd with
    | [b0,b1],_=>exact ⟨b0,b1,rfl⟩
    | [],h=>exact h.elim
    | [_],h=>exact h.2.elim
    | _ :: _ :: _ :: _,h=>exact h.2.2.elim
  obtain ⟨pl,ls,rfl,hpl,hdl⟩:=den_tup hd.1
  obtain ⟨pr,rs,rfl,hpr,hdr⟩:=den_tup hd.2.1
  refine ⟨_,rfl,p,rfl,⟨_,SqT.of ep⟩,fun la hla=>?_⟩
  refine comp_by (J:=Itt K p) (l:=la) 2 (fun i σ' H'=>∃ (v:Option V) (as:List Addr),σ'=[v]∧H' la=some (.lst (as.map V.ref))∧Same H H'∧as.length=i∧as.Nodup∧(∀ l∈as,H l=none∧l≠la)∧∀ (j:Nat) (l:Addr) (qs:List Prt),as[j]?=some l→[L,R][j]?=some qs→H' l=some (.lst (nmsOf qs))) ⟨none,[],rfl,upd_same,same_new hla _,rfl,.nil,(fun l h=>by cases h),(fun j l qs h=>by simp at h)⟩ ?_ ?_
  · rintro σ' H1 ⟨v,as,rfl,ea,s1,hal,hand,hfr,hat⟩
    obtain ⟨l0,l1,rfl⟩:∃ l0 l1,as=[l0,l1]:=by
      match as,hal with
      | [l0,l1],_=>exact ⟨l0,l1,rfl⟩
    have e0:H1 l0=some (.lst ((L.map (·.1)).map mkT)):=by rw [← nms_mkT]; exact hat 0 l0 L rfl rfl
    have e1:H1 l1=some (.lst ((R.map (·.1)).map mkT)):=by rw [← nms_mkT]; exact hat 1 l1 R rfl rfl
    obtain ⟨f0,n0a⟩:=hfr l0 (.head _)
    obtain ⟨f1,n1a⟩:=hfr l1 (.tail _ (.head _))
    have n01:l0≠l1:=by
      intro z
      subst z
      simp at hand
    refine ⟨⟨_,SqT.of (s1 _ _ ep),Nat.le_refl _⟩,?_⟩
    have o1:Old d lo H H1:=Old.of s1
    have p1:=hp.same s1
    obtain ⟨n0d,n0l⟩:=hp.ne f0
    obtain ⟨n1d,n1l⟩:=hp.ne f1
    obtain ⟨nad,nal⟩:=hp.ne hla
    have at0:atI [V.ref l0,V.ref l1] 0=some (.ref l0):=atI_zero _ _
    have at1:atI [V.ref l0,V.ref l1] 1=some (.ref l1):=atI_nat (xs:=[V.ref l0,V.ref l1]) (j:=1) rfl
    have hndL:(L.map (·.1)).Nodup:=by rw [List.map_append] at hnd; exact hnd.sublist (List.sublist_append_left _ _)
    have hndR:(R.map (·.1)).Nodup:=by rw [List.map_append] at hnd; exact hnd.sublist (List.sublist_append_right _ _)
    have nmL:∀ x∈L.map (·.1),isNm ⟨x.toArray⟩=true:=fun x hx=>by
      obtain ⟨q,hq,rfl⟩:=List.mem_map.mp hx
      exact (hg q (List.mem_append_left _ hq)).1
    have nmR:∀ x∈R.map (·.1),isNm ⟨x.toArray⟩=true:=fun x hx=>by
      obtain ⟨q,hq,rfl⟩:=List.mem_map.mp hx
      exact (hg q (List.mem_append_right _ hq)).1
    refine gN ⟨smn 0,fun lk hlk=>?_⟩
    have s2:=same_new hlk (.lst [])
    obtain ⟨nkd,nkl⟩:=p1.ne hlk
    have nka:lk≠la:=(ne_of_none ea hlk).symm
    have nk0:lk≠l0:=(ne_of_none e0 hlk).symm
    have nk1:lk≠l1:=(ne_of_none e1 hlk).symm
    have hlkH:H lk=none:=same_none s1 hlk
    refine ⟨_,rfl,d,lo,3,rfl,p1.same s2,by decide,by decide,fun r H3 r0 r1 p3 o3=>?_⟩
    refine ⟨r,rfl,by omega,by omega,?_⟩
    refine for_range (lo:=0) (n:=r.toNat) (fun j σ H4=>∃ (v4 v5 v6 v7:Option V) (us:List V) (ks:List Lnk) (ra rb:Nms),σ=[some (.ref d),some (.ref p),some (.ref la),some (.ref lk),v4,v5,v6,v7,none]∧PotAt d lo H4∧H4 la=some (.lst [.ref l0,.ref l1])∧H4 l0=some (.lst (ra.map mkT))∧H4 l1=some (.lst (rb.map mkT))∧H4 lk=some (.lst us)∧DenL H4 us (ks.map linkD)∧ks.length≤j∧(∀ q∈ks,GoodL q)∧(L.map (·.1)).Perm (linkedN 0 ks++ra)∧(R.map (·.1)).Perm (linkedN 1 ks++rb)∧Old d lo H H4)
      ⟨none,none,none,none,[],[],L.map (·.1),R.map (·.1),rfl,p3,o3 la _ (s2 _ _ ea) nad nal,o3 l0 _ (s2 _ _ e0) n0d n0l,o3 l1 _ (s2 _ _ e1) n1d n1l,o3 lk _ upd_same nkd nkl,trivial,Nat.le_refl _,(fun q h=>by cases h),List.Perm.refl _,List.Perm.refl _,(o1.trans (Old.of s2)).trans o3⟩ ?_ ?_
    · rintro j σ H4 hj ⟨v4,v5,v6,v7,us,ks,ra,rb,rfl,p4,e4a,e40,e41,e4k,dn4,hks,hkg,pm0,pm1,o4⟩
      have hj12:j < 12:=by omega
      refine gN ⟨_,rfl,la,_,0,_,rfl,rfl,SqL.of e4a,at0,smn 0,fun b hb=>?_⟩
      have s5:=same_new hb (.lst [])
      refine ⟨l0,b,_,rfl,rfl,s5 _ _ e40,upd_same,_,rfl,?_⟩
      have oth:∀ {H5:Hp},Same H4 H5→∃ (v4' v5' v6' v7':Option V) (us:List V) (ks:List Lnk) (ra rb:Nms),[some (V.ref d),some (.ref p),some (.ref la),some (.ref lk),some (.int (0+(j:Int))),v5,v6,v7,none]=[some (.ref d),some (.ref p),some (.ref la),some (.ref lk),v4',v5',v6',v7',none]∧PotAt d lo H5∧H5 la=some (.lst [.ref l0,.ref l1])∧H5 l0=some (.lst (ra.map mkT))∧H5 l1=some (.lst (rb.map mkT))∧H5 lk=some (.lst us)∧DenL H5 us (ks.map linkD)∧ks.length≤j+1∧(∀ q∈ks,GoodL q)∧(L.map (·.1)).Perm (linkedN 0 ks++ra)∧(R.map (·.1)).Perm (linkedN 1 ks++rb)∧Old d lo H H5 :=
        fun {H5} s=>⟨_,_,_,_,us,ks,ra,rb,rfl,p4.same s,s _ _ e4a,s _ _ e40,s _ _ e41,s _ _ e4k,dn4.same s,by omega,hkg,pm0,pm1,o4.trans (Old.of s)⟩
      by_cases hra:ra=[]
      · subst hra
        exact iteF (oth s5)
      refine ite_go (by cases ra with | nil=>exact absurd rfl hra | cons=>rfl) ?_
      refine ⟨_,rfl,la,_,1,_,rfl,rfl,SqL.of (s5 _ _ e4a),at1,smn 0,fun b6 hb6=>?_⟩
      have s6:=s5.trans (same_new hb6 (.lst []))
      refine ⟨l1,b6,_,rfl,rfl,s6 _ _ e41,upd_same,_,rfl,?_⟩
      by_cases hrb:rb=[]
      · subst hrb
        exact iteF (oth s6)
      refine ite_go (by cases rb with | nil=>exact absurd rfl hrb | cons=>rfl) ?_
      generalize upd (upd H4 b (.lst [])) b6 (.lst [])=H6 at s6
      have ndra:ra.Nodup:=(pm0.nodup_iff.mp hndL).sublist (List.sublist_append_right _ _)
      have ndrb:rb.Nodup:=(pm1.nodup_iff.mp hndR).sublist (List.sublist_append_right _ _)
      have lena:ra.length≤12:=by
        have:=pm0.length_eq
        rw [List.length_map,List.length_append] at this
        omega
      have lenb:rb.length≤12:=by
        have:=pm1.length_eq
        rw [List.length_map,List.length_append] at this
        omega
      have p6:=p4.same s6
      have e60:=s6 _ _ e40
      have e61:=s6 _ _ e41
      have e6a:=s6 _ _ e4a
      have e6k:=s6 _ _ e4k
      refine gN ⟨_,rfl,_,rfl,la,_,0,_,rfl,rfl,SqL.of e6a,at0,d,lo,l0,ra,3,rfl,p6,e60,n0d,n0l,hra,by omega,ndra,fun x hx=>nmL x (pm0.mem_iff.mpr (List.mem_append_right _ hx)),by decide,by decide,fun q7 ns7 ra7 H7 e7q g7 ne7 ln7 pm7 e70 p7 o7=>?_⟩
      have k7:=old3_keep p6 e60 o7
      have e71:H7 l1=_:=o7 l1 _ e61 n1d n1l n01.symm
      have e7a:H7 la=_:=o7 la _ e6a nad nal n0a.symm
      have e7k:H7 lk=_:=o7 lk _ e6k nkd nkl nk0
      refine gN ⟨_,rfl,_,rfl,la,_,1,_,rfl,rfl,SqL.of e7a,at1,d,lo,l1,rb,3,rfl,p7,e71,n1d,n1l,hrb,by omega,ndrb,fun x hx=>nmR x (pm1.mem_iff.mpr (List.mem_append_right _ hx)),by decide,by decide,fun q8 ns8 rb8 H8 e8q g8 ne8 ln8 pm8 e81 p8 o8=>?_⟩
      have k8:=old3_keep p7 e71 o8
      have e80:H8 l0=_:=o8 l0 _ e70 n0d n0l n01
      have e8a:H8 la=_:=o8 la _ e7a nad nal n1a.symm
      have e8k:H8 lk=_:=o8 lk _ e7k nkd nkl nk1
      refine gN ⟨_,rfl,?_⟩
      refine drawN (σ:=[some (.ref d),some (.ref p),some (.ref la),some (.ref lk),some (.int (0+(j:Int))),some (.ref q7),some (.ref q8),v7,none]) (i:=0) (m:=3) rfl p8 (by decide) (by decide) fun r9 H9 c0 c1 p9 o9=>?_
      obtain ⟨m9,rfl⟩:=Int.eq_ofNat_of_zero_le c0
      refine ⟨d,lo,m9,rfl,p9,by omega,fun q10 ms10 H10 e10q g10 hl10 p10 o10=>?_⟩
      refine ⟨_,rfl,?_⟩
      refine drawN (σ:=[some (.ref d),some (.ref p),some (.ref la),some (.ref lk),some (.int (0+(j:Int))),some (.ref q7),some (.ref q8),v7,none]) (i:=0) (m:=3) rfl p10 (by decide) (by decide) fun r11 H11 c2 c3 p11 o11=>?_
      obtain ⟨m11,rfl⟩:=Int.eq_ofNat_of_zero_le c2
      refine ⟨d,lo,m11,rfl,p11,by omega,fun q12 ms12 H12 e12q g12 hl12 p12 o12=>?_⟩
      refine ⟨smn 2,fun tl htl=>?_⟩
      have oB:Old d lo H8 H12:=((o9.trans o10).trans o11).trans o12
      have kB:=old_keep p8 oB
      have kC:=old_keep p10 (o11.trans o12)
      have s13:=same_new htl (.tup [.ref q10,.ref q12])
      have e13t:(upd H12 tl (.tup [.ref q10,.ref q12])) tl=some (.tup [.ref q10,.ref q12]):=upd_same
      have p13:=p12.same s13
      have oC:Old d lo H8 (upd H12 tl (.tup [.ref q10,.ref q12])):=oB.trans (Old.of s13)
      generalize upd H12 tl (.tup [.ref q10,.ref q12])=H13 at s13 e13t p13 oC
      have e13k:H13 lk=_:=oC lk _ e8k nkd nkl
      refine gN ⟨_,rfl,.inl ⟨rfl,_,SqL.of e13k⟩,_,rfl,_,rfl,_,rfl,d,lo,1,rfl,p13,by decide,fun q14 ms14 H14 e14q g14 hl14 p14 o14=>?_⟩
      obtain ⟨mm,rfl⟩:∃ mm,ms14=[mm]:=by
        match ms14,hl14 with
        | [mm],_=>exact ⟨mm,rfl⟩
      refine ⟨q14,_,0,_,rfl,rfl,SqT.of e14q,atI_zero _ _,_,rfl,smn 4,fun tq htq=>?_⟩
      have oD:=oC.trans o14
      have k14:=old_keep p13 o14
      have s15:=same_new htq (.tup [.ref q7,.ref q8,.int mm,.ref tl])
      have e15t:(upd H14 tq (.tup [.ref q7,.ref q8,.int mm,.ref tl])) tq=some (.tup [.ref q7,.ref q8,.int mm,.ref tl]):=upd_same
      have p15:=p14.same s15
      have oE:Old d lo H8 (upd H14 tq (.tup [.ref q7,.ref q8,.int mm,.ref tl])):=oD.trans (Old.of s15)
      have kE:=old_keep p8 oE
      have kF:∀ (b:Addr) (vs:List V),H12 b=some (.tup vs)→(upd H14 tq (.tup [.ref q7,.ref q8,.int mm,.ref tl])) b=some (.tup vs):=fun b vs e=>s15 _ _ (k14 _ _ (s13 _ _ e))
      have e15l:(upd H14 tq (.tup [.ref q7,.ref q8,.int mm,.ref tl])) tl=some (.tup [.ref q10,.ref q12]):=s15 _ _ (k14 _ _ e13t)
      generalize upd H14 tq (.tup [.ref q7,.ref q8,.int mm,.ref tl])=H15 at s15 e15t p15 oE kE kF e15l
      have e15k:H15 lk=_:=oE lk _ e8k nkd nkl
      have e150:H15 l0=_:=oE l0 _ e80 n0d n0l
      have e151:H15 l1=_:=oE l1 _ e81 n1d n1l
      have e15a:H15 la=_:=oE la _ e8a nad nal
      have kA:∀ (b:Addr) (vs:List V),H4 b=some (.tup vs)→H15 b=some (.tup vs):=fun b vs e=>kE _ _ (k8 _ _ (k7 _ _ (s6 _ _ e)))
      have kT:=keepT_upd (zs:=us++[.ref tq]) e15k
      have dq:Den H15 (.ref tq) (linkD (ns7,ns8,mm,ms10,ms12)):=by
        refine ⟨tq,_,rfl,e15t,⟨q7,_,rfl,kE _ _ (k8 _ _ e7q),denS_of _ ns7⟩,⟨q8,_,rfl,kE _ _ e8q,denS_of _ ns8⟩,rfl,⟨tl,_,rfl,e15l,⟨q10,_,rfl,kF _ _ (kC _ _ e10q),denI_of _ ms10⟩,⟨q12,_,rfl,kF _ _ e12q,denI_of _ ms12⟩,trivial⟩,trivial⟩
      refine ⟨lk,us,_,rfl,rfl,e15k,?_,?_⟩
      · have:=dn4.len
        rw [List.length_map] at this
        exact small1000 (by omega)
      refine ⟨_,_,_,_,us++[.ref tq],ks++[(ns7,ns8,mm,ms10,ms12)],ra7,rb8,rfl,p15.upd nkd nkl,(upd_ne nka.symm).trans e15a,(upd_ne nk0.symm).trans e150,(upd_ne nk1.symm).trans e151,upd_same,?_,by rw [List.length_append,List.length_singleton]; omega,fun q hq=>?_,?_,?_,?_⟩
      · rw [List.map_append]
        exact DenL.snoc (Den.keepT kT dq) ((dn4.keepT kA).keepT kT)
      · rcases List.mem_append.mp hq with z | z
        · exact hkg q z
        · rw [List.mem_singleton.mp z]
          exact ⟨g7,g8,ne7,ne8,(g14.1 mm (.head _)).1,(g14.1 mm (.head _)).2,g10,g12⟩
      · rw [linked_snoc,List.append_assoc]
        exact pm0.trans (pm7.append_left _)
      · rw [linked_snoc,List.append_assoc]
        exact pm1.trans (pm8.append_left _)
      · have oF:Old d lo H H6:=o4.trans (Old.of s6)
        have oG:Old d lo H H7:=fun c o e h1 h2=>o7 c o (oF c o e h1 h2) h1 h2 (ne_of_none e f0)
        have oH:Old d lo H H8:=fun c o e h1 h2=>o8 c o (oG c o e h1 h2) h1 h2 (ne_of_none e f1)
        exact (oH.trans oE).free hlkH
    · rintro σ H4 ⟨v4,v5,v6,v7,us,ks,ra,rb,rfl,p4,e4a,e40,e41,e4k,dn4,hks,hkg,pm0,pm1,o4⟩
      have lena:ra.length≤12:=by
        have:=pm0.length_eq
        rw [List.length_map,List.length_append] at this
        omega
      have lenb:rb.length≤12:=by
        have:=pm1.length_eq
        rw [List.length_map,List.length_append] at this
        omega
      refine ⟨_,rfl,la,_,0,_,rfl,rfl,SqL.of e4a,at0,_,rfl,la,_,1,_,rfl,rfl,SqL.of e4a,at1,l0,l1,_,_,rfl,rfl,e40,e41,by rw [List.length_map,List.length_map]; exact small (by omega),fun lq hlq=>?_⟩
      rw [← List.map_append]
      have s5:=same_new hlq (.lst ((ra++rb).map mkT))
      have e5q:(upd H4 lq (.lst ((ra++rb).map mkT))) lq=some (.lst ((ra++rb).map mkT)):=upd_same
      generalize upd H4 lq (.lst ((ra++rb).map mkT))=H5 at s5 e5q
      refine ⟨lq,rfl,⟨_,SqL.of e5q⟩,fun lc hlc=>?_⟩
      have p5:=p4.same s5
      obtain ⟨ncd,ncl⟩:=p5.ne hlc
      obtain ⟨nqd,nql⟩:=p4.ne hlq
      have nck:lc≠lk:=(ne_of_none (s5 _ _ e4k) hlc).symm
      have ncq:lc≠lq:=(ne_of_none e5q hlc).symm
      have hlcH:H lc=none:=(o4.trans (Old.of s5)).none hp p5 hlc
      refine comp_by (J:=Itl K lq) (l:=lc) ((ra++rb).map mkT).length (fun i σ' H'=>∃ (v:Option V) (al:Nms),σ'=[some (.ref d),v]∧H' lc=some (.lst (al.map mkT))∧H' lq=some (.lst ((ra++rb).map mkT))∧H' lk=some (.lst us)∧DenL H' us (ks.map linkD)∧al.Sublist ((ra++rb).take i)∧PotAt d lo H'∧Old d lo H H') ⟨none,[],rfl,upd_same,same_new hlc _ _ _ e5q,same_new hlc _ _ _ (s5 _ _ e4k),(dn4.same s5).same (same_new hlc _),.slnil,p5.new hlc,(o4.trans (Old.of s5)).new hlc⟩ ?_ ?_
      · rintro σ' H6 ⟨v,al,rfl,e6c,e6q,e6k,dn6,hsub,p6,o6⟩
        rw [List.length_map,List.take_length] at hsub
        refine ⟨⟨_,SqL.of e6q,Nat.le_refl _⟩,?_⟩
        have lal:al.length≤24:=by
          have:=hsub.length_le
          rw [List.length_append] at this
          omega
        refine gN ⟨_,rfl,lk,us,_,rfl,.inl (SqL.of e6k),dn6,hom_links ks,by rw [List.length_map]; omega,fun x hx=>?_,fun l7 us7 ds7 hl7 pm7 up7 dn7=>?_⟩
        · obtain ⟨y,hy,rfl⟩:=List.mem_map.mp hx
          exact show Shal 50 _ from shal_ups (n:=3) (shal_link (hkg y hy)) 47
        obtain ⟨ks7,pk7,rfl⟩:=perm_map_inv pm7 rfl
        have s7:=same_new hl7 (.lst us7)
        refine ⟨l7,_,rfl,.inl ⟨SqL.of upd_same,fun q8 hq8=>?_⟩⟩
        have s8:=s7.trans (same_new hq8 (.tup us7))
        have e8q:(upd (upd H6 l7 (.lst us7)) q8 (.tup us7)) q8=some (.tup us7):=upd_same
        generalize upd (upd H6 l7 (.lst us7)) q8 (.tup us7)=H8 at s8 e8q
        have e8c:=s8 _ _ e6c
        refine ⟨_,rfl,lc,_,_,rfl,.inl (SqL.of e8c),denS_of _ al,hom_names al,by rw [List.length_map]; omega,fun x hx=>?_,fun l9 us9 ds9 hl9 pm9 up9 dn9=>?_⟩
        · obtain ⟨y,_,rfl⟩:=List.mem_map.mp hx
          exact show Shal 50 _ from shal_ups (n:=0) (shal_str _) 50
        obtain ⟨al9,pa9,rfl⟩:=perm_map_inv pm9 rfl
        have s9:=same_new hl9 (.lst us9)
        refine ⟨l9,_,rfl,.inl ⟨SqL.of upd_same,fun q10 hq10=>?_⟩⟩
        have s10:=s9.trans (same_new hq10 (.tup us9))
        have e10q:(upd (upd H8 l9 (.lst us9)) q10 (.tup us9)) q10=some (.tup us9):=upd_same
        generalize upd (upd H8 l9 (.lst us9)) q10 (.tup us9)=H10 at s10 e10q
        refine ⟨smn 2,fun q11 hq11=>?_⟩
        have s11:=same_new hq11 (.tup [.ref q8,.ref q10])
        have sA:=s10.trans s11
        have sB:=s8.trans sA
        refine k q11 q8 q10 ks7 al9 _ upd_same ⟨q8,us7,rfl,sA _ _ e8q,dn7.same sB⟩ ⟨q10,us9,rfl,s11 _ _ e10q,dn9.same sA⟩ ?_ (p6.same sB) (o6.trans (Old.of sB))
        exact goodB_of hL hR hg hnd hkg (by omega) pm0 pm1 pk7 up7 hsub pa9 up9
      · rintro i σ' H6 hi ⟨v,al,rfl,e6c,e6q,e6k,dn6,hsub,p6,o6⟩
        have hi':i < (ra++rb).length:=by rwa [List.length_map] at hi
        have hat':((ra++rb).map mkT)[i]?=some (mkT (ra++rb)[i]):=at_T hi'
        refine ⟨⟨_,_,SqL.of e6q,hat'⟩,?_⟩
        rintro y H'' ⟨rfl,hy⟩
        have ey:y=mkT (ra++rb)[i]:=Option.some.inj ((hy _ (SqL.of e6q)).symm.trans hat')
        subst ey
        have htk:(ra++rb).take (i+1)=(ra++rb).take i++[(ra++rb)[i]]:=by
          rw [List.take_add_one,List.getElem?_eq_getElem hi']
          rfl
        refine gN ?_
        refine drawN (σ:=[some (.ref d),some (mkT (ra++rb)[i])]) (i:=0) (m:=3) rfl p6 (by decide) (by decide) fun r7 H7 c0 c1 p7 o7=>?_
        have k7:=old_keep p6 o7
        have e7c:H7 lc=_:=o7 lc _ e6c ncd ncl
        have e7q:H7 lq=_:=o7 lq _ e6q nqd nql
        have e7k:H7 lk=_:=o7 lk _ e6k nkd nkl
        refine ⟨rfl,_,rfl,?_⟩
        refine ite2 (fun z=>?_) (fun z=>?_)
        · refine ⟨_,rfl,_,e7c,?_,_,al++[(ra++rb)[i]],rfl,?_,(upd_ne ncq.symm).trans e7q,(upd_ne nck.symm).trans e7k,?_,?_,p7.upd ncd ncl,(o6.trans o7).free hlcH⟩
          · rw [List.length_map]
            have:=hsub.length_le
            rw [List.length_take,List.length_append] at this
            exact small1000 (by omega)
          · rw [upd_same,List.map_append]
            rfl
          · exact (dn6.keepT k7).keepT (keepT_upd e7c)
          · rw [htk]
            exact hsub.append (List.Sublist.refl _)
        · refine ⟨_,al,rfl,e7c,e7q,e7k,dn6.keepT k7,?_,p7,o6.trans o7⟩
          rw [htk]
          exact hsub.trans (List.sublist_append_left _ _)
  · rintro i σ' H1 hi ⟨v,as,rfl,ea,s1,hal,hand,hfr,hat⟩
    obtain ⟨qs,ws,pq,hyi,hq,hpq,hdq,hql⟩:∃ (qs:List Prt) (ws:List V) (pq:Addr),([V.ref pl,V.ref pr]:List V)[i]?=some (.ref pq)∧[L,R][i]?=some qs∧H pq=some (.tup ws)∧DenL H ws (qs.map partD)∧qs.length≤12:=by
      match i,hi with
      | 0,_=>exact ⟨L,ls,pl,rfl,rfl,hpl,hdl,hL⟩
      | 1,_=>exact ⟨R,rs,pr,rfl,rfl,hpr,hdr,hR⟩
    refine ⟨⟨_,_,SqT.of (s1 _ _ ep),hyi⟩,?_⟩
    rintro y H'' ⟨rfl,hy⟩
    have ey:y=.ref pq:=Option.some.inj ((hy _ (SqT.of (s1 _ _ ep))).symm.trans hyi)
    subst ey
    have hul:=hdq.len
    rw [List.length_map] at hul
    refine gN (yesT (iteT ?_))
    refine ⟨_,rfl,pq,rfl,⟨_,SqT.of (s1 _ _ hpq)⟩,fun lc hlc=>?_⟩
    refine comp_by (J:=Itt K pq) (l:=lc) ws.length (fun i σ' H'=>∃ (v:Option V),σ'=[v]∧H'=upd H'' lc (.lst (nmsOf (qs.take i)))) ⟨none,rfl,rfl⟩ ?_ ?_
    · rintro σ' H2 ⟨v,rfl,rfl⟩
      have s2:=same_new hlc (.lst (nmsOf (qs.take ws.length)))
      refine ⟨⟨_,SqT.of (s2 _ _ (s1 _ _ hpq)),Nat.le_refl _⟩,?_⟩
      have nca:la≠lc:=ne_of_none ea hlc
      have hlcH:H lc=none:=same_none s1 hlc
      have hnew:lc ∉ as:=fun z=>by
        obtain ⟨j,hj,e⟩:=List.mem_iff_getElem.mp z
        have hj2:j < 2:=by omega
        have hj3:∃ q,[L,R][j]?=some q:=by
          match j,hj2 with
          | 0,_=>exact ⟨_,rfl⟩
          | 1,_=>exact ⟨_,rfl⟩
        obtain ⟨q,hq'⟩:=hj3
        have:=hat j lc q (by rw [List.getElem?_eq_getElem hj,e]) hq'
        rw [hlc] at this
        cases this
      refine ⟨_,s2 _ _ ea,by rw [List.length_map]; exact small1000 (by omega),_,as++[lc],rfl,?_,?_,by rw [List.length_append,hal]; rfl,?_,?_,?_⟩
      · rw [upd_same,List.map_append]
        rfl
      · intro c o z
        rw [upd_ne (ne_of_none z hla)]
        exact s2 _ _ (s1 _ _ z)
      · rw [List.nodup_append]
        exact ⟨hand,by simp,fun a ha b hb e=>hnew (by rw [List.mem_singleton.mp hb] at e; rw [← e]; exact ha)⟩
      · intro l hl
        rcases List.mem_append.mp hl with z | z
        · exact hfr l z
        · rw [List.mem_singleton.mp z]
          exact ⟨hlcH,nca.symm⟩
      · intro j l q hj hjq
        rcases Nat.lt_or_ge j as.length with hlt | hge
        · rw [List.getElem?_append_left hlt] at hj
          have hne:l≠la:=(hfr l (List.mem_of_getElem? hj)).2
          rw [upd_ne hne]
          exact s2 _ _ (hat j l q hj hjq)
        · rw [List.getElem?_append_right hge] at hj
          have hj0:j=as.length:=by
            have:=(List.getElem?_eq_some_iff.mp hj).1
            simp at this
            omega
          subst hj0
          simp at hj
          subst hj
          rw [upd_ne nca.symm,upd_same]
          rw [hal] at hjq
          rw [hq] at hjq
          injection hjq with hjq
          subst hjq
          rw [hul,List.take_length]
    · rintro i' σ' H2 hi' ⟨v,rfl,rfl⟩
      have s2:=same_new hlc (.lst (nmsOf (qs.take i')))
      have hat':ws[i']?=some ws[i']:=List.getElem?_eq_getElem hi'
      refine ⟨⟨_,_,SqT.of (s2 _ _ (s1 _ _ hpq)),hat'⟩,?_⟩
      rintro y H'' ⟨rfl,hy⟩
      have ey:y=ws[i']:=Option.some.inj ((hy _ (SqT.of (s2 _ _ (s1 _ _ hpq)))).symm.trans hat')
      have hni:i' < qs.length:=by omega
      obtain ⟨dd,hdd,dy⟩:=hdq.at_ hat'
      rw [← ey] at dy
      rw [List.getElem?_map,List.getElem?_eq_getElem hni] at hdd
      have edd:partD qs[i']=dd:=Option.some.inj hdd
      subst edd
      obtain ⟨b,bs,rfl,hb,hbd⟩:=den_tup (dy.same (s1.trans s2))
      obtain ⟨c0,cs,rfl⟩:∃ c0 cs,bs=c0 :: cs:=by
        cases bs with
        | nil=>exact hbd.elim
        | cons c0 cs=>exact ⟨c0,cs,rfl⟩
      have ec:c0=mkT qs[i'].1:=hbd.1
      subst ec
      refine gN (yesT (iteT ?_))
      refine ⟨_,rfl,b,_,_,_,rfl,rfl,SqT.of hb,atI_zero _ _,_,upd_same,?_,_,rfl,?_⟩
      · rw [nmsOf,List.length_map,List.length_take]
        exact small1000 (by omega)
      · rw [upd_upd,List.take_add_one,List.getElem?_eq_getElem hni,nmsOf,nmsOf,List.map_append]
        rfl
end
def spBook:Sp:=fun vs H Q _=>∃ (d lo l:Addr) (xs:Nms),vs=[.ref d,.ref l]∧PotAt d lo H∧H l=some (.lst (xs.map mkT))∧l≠d∧l≠lo∧Row70 xs ∧
  ∀ (q:Addr) (L R:List Prt) (ks:List Lnk) (al rest:Nms) (H':Hp),Den H' (.ref q) (bookD L R ks al)→GoodB L R ks al→L.length≤12→R.length≤12→xs.Perm ((L++R).map (·.1)++rest)→H' l=some (.lst (rest.map mkT))→PotAt d lo H'→Old3 d lo l H H'→Q (.ref q) H'
section
variable {P:Program} {w:World} {K:PySem.W.Frag} {mg:Str→Option Value} {base:Heap}
theorem scBook:FnScope ["_law_pot_here", "_law_names_here", "_law_sides_here"] ["_law_pot_here", "_law_names_here"] (defScope sBook):=⟨rfl,rfl,rfl,by decide +kernel,rfl,by decide +kernel,by decide +kernel⟩
theorem c_book (h:Has K mg "_law_book" sBook ["_law_pot_here", "_law_names_here"]) (C_sides:Cal P w K mg base "_law_sides" 3 ["_law_pot_here", "_law_names_here"] spSides) (C_stood:Cal P w K mg base "_law_stood" 4 ["_law_pot_here", "_law_sides_here"] spStood):Cal P w K mg base "_law_book" 5 ["_law_pot_here", "_law_names_here"] spBook:=by
  refine h.mk' scBook (fun vs H Q E hs=>?_) (fun f cdv A outer s H vs Q E hr hs=>?_)
  · obtain ⟨d,lo,l,xs,rfl,_⟩:=hs
    rfl
  obtain ⟨d,lo,l,xs,rfl,hp,hl,nd,nl,⟨hxl,hxn,hxm⟩,k⟩:=hs
  refine ⟨_,(pss_cons (ps_set (i:=2) scBook.nd rfl (Or.inl rfl) (pe_cal C_sides hr (by decide) rfl (pa_cons (pv 0) (pa_cons (pv 1) pa_nil))))
    (pss_one (ps_ret (pe_op op_catT2 (pv 2) (pe_cal C_stood hr (by decide) rfl (pa_cons (pv 0) (pa_cons (pv 2) pa_nil))))))),?_⟩
  refine ⟨_,rfl,_,rfl,d,lo,l,xs,rfl,hp,hl,nd,nl,by omega,by omega,hxm,fun q Ps rest H1 dn hPl hPg hpm e1 p1 o1=>?_⟩
  obtain ⟨L,R,rfl⟩:∃ L R,Ps=[L,R]:=by
    match Ps,hPl with
    | [L,R],_=>exact ⟨L,R,rfl⟩
  have hnd:((L++R).map (·.1)).Nodup:=by
    have:=(hpm.nodup_iff.mp hxn).sublist (List.sublist_append_left _ _)
    simpa using this
  have hg:∀ p∈L++R,GoodP p:=fun p hp'=>by
    rcases List.mem_append.mp hp' with z | z
    · exact (hPg L (.head _)).2 p z
    · exact (hPg R (.tail _ (.head _))).2 p z
  refine ⟨_,rfl,_,rfl,_,rfl,d,lo,_,L,R,rfl,p1,dn,(hPg L (.head _)).1,(hPg R (.tail _ (.head _))).1,hg,hnd,fun q2 a b ks al H2 e2 da db gb p2 o2=>?_⟩
  obtain ⟨q',us,eq,eq1,hd⟩:=den_tup dn
  injection eq with eq
  subst eq
  obtain ⟨b0,b1,rfl⟩:∃ b0 b1,us=[b0,b1]:=by
    match us,hd with
    | [b0,b1],_=>exact ⟨b0,b1,rfl⟩
    | [],h=>exact h.elim
    | [_],h=>exact h.2.elim
    | _ :: _ :: _ :: _,h=>exact h.2.2.elim
  obtain ⟨pl,ls,rfl,hpl,hdl⟩:=den_tup hd.1
  obtain ⟨pr,rs,rfl,hpr,hdr⟩:=den_tup hd.2.1
  have k2:=old_keep p1 o2
  obtain ⟨a',ws,ea,ha,hda⟩:=den_tup da
  injection ea with ea
  subst ea
  obtain ⟨b',bs,eb,hb,hdb⟩:=den_tup db
  injection eb with eb
  subst eb
  rw [denS hdb] at hb
  refine ⟨q,q2,_,_,rfl,rfl,k2 _ _ eq1,e2,smn 4,fun q3 H3 s3 e3=>?_⟩
  refine k q3 L R ks al rest H3 ⟨q3,_,rfl,e3,⟨pl,ls,rfl,s3 _ _ (k2 _ _ hpl),(hdl.keepT k2).same s3⟩,⟨pr,rs,rfl,s3 _ _ (k2 _ _ hpr),(hdr.keepT k2).same s3⟩,⟨a,ws,rfl,s3 _ _ ha,hda.same s3⟩,⟨b,_,rfl,s3 _ _ hb,denS_of H3 al⟩,trivial⟩ gb (hPg L (.head _)).1 (hPg R (.tail _ (.head _))).1 (by simpa using hpm) (s3 _ _ (o2 _ _ e1 nd nl)) (p2.same s3) ((o1.trans (Old3.of2 o2)).trans (Old3.of s3))
end
structure Md where
  m:Addr
  dt:Addr
  dw:Addr
  lr:Addr
  l0:Addr
  l1:Addr
  lk:Addr
  la:Addr
def mdK (M:Md):List (Key × V):=[(Sum.inr "text",.ref M.dt),(Sum.inr "when",.ref M.dw),(Sum.inr "rows",.ref M.lr),(Sum.inr "links",.ref M.lk),(Sum.inr "alone",.ref M.la)]
def nk (x:List Nat):Key:=Sum.inr ⟨x.toArray⟩
theorem nk_inj {a b:List Nat} (h:nk a=nk b):a=b:=by
  injection h with h
  injection h with h
  exact Array.mk.inj h
def Md.ln (M:Md) (n:Nat):Addr:=if n=0 then M.l0 else M.l1
def Md.all (M:Md):List Addr:=[M.m,M.dt,M.dw,M.lr,M.l0,M.l1,M.lk,M.la]
structure LkAt (T:List Addr) (H:Hp) (v:V) (k:Lnk):Prop where
  ex:∃ (q a b c d:Addr),v=.ref q∧q ∉ T∧a ∉ T∧b ∉ T∧c ∉ T∧d ∉ T∧H q=some (.lst [.ref a,.ref b,.int k.2.2.1,.ref c,.ref d])∧H a=some (.lst (k.1.map mkT))∧H b=some (.lst (k.2.1.map mkT))∧H c=some (.lst (k.2.2.2.1.map V.int))∧H d=some (.lst (k.2.2.2.2.map V.int))
structure TxAt (H:Hp) (dt:Addr) (P:List Prt):Prop where
  ex:∃ kt:List (Key × V),H dt=some (.dK kt)∧kt.length≤P.length∧∀ p∈P,valV kt (nk p.1)=some (mkT p.2.1)
structure WhAt (T:List Addr) (H:Hp) (dw:Addr) (P:List Prt):Prop where
  ex:∃ kt:List (Key × V),H dw=some (.dK kt)∧kt.length≤P.length∧∀ p∈P,∃ l,valV kt (nk p.1)=some (.ref l)∧l ∉ T∧H l=some (.lst (p.2.2.map V.int))
structure LksAt (T:List Addr) (H:Hp) (lk:Addr) (ks:List Lnk):Prop where
  ex:∃ us:List V,H lk=some (.lst us)∧us.length=ks.length∧∀ (i:Nat) (u:V) (k:Lnk),us[i]?=some u→ks[i]?=some k→LkAt T H u k
structure MdAt (S:List Addr) (H:Hp) (M:Md) (L R:List Prt) (ks:List Lnk) (al:Nms):Prop where
  m:H M.m=some (.dK (mdK M))
  t:TxAt H M.dt (L++R)
  w:WhAt (M.l0 :: M.l1 :: S) H M.dw (L++R)
  lr:H M.lr=some (.lst [.ref M.l0,.ref M.l1])
  l0:H M.l0=some (.lst (nmsOf L))
  l1:H M.l1=some (.lst (nmsOf R))
  lk:LksAt (M.l0 :: M.l1 :: S) H M.lk ks
  la:H M.la=some (.lst (al.map mkT))
  off:∀ a∈M.all,a ∉ S
  nd:M.all.Nodup
def Keep (S:List Addr) (H H':Hp):Prop:=∀ a o,H a=some o→a ∉ S→H' a=some o
theorem Keep.of {S:List Addr} {H H':Hp} (s:Same H H'):Keep S H H':=fun a o h _=>s a o h
theorem Keep.trans {S:List Addr} {H H1 H2:Hp} (a:Keep S H H1) (b:Keep S H1 H2):Keep S H H2:=fun c o h n=>b c o (a c o h n) n
theorem Keep.old {d lo:Addr} {H H':Hp} (o:Old d lo H H'):Keep [d,lo] H H':=fun a u h n=>o a u h (fun z=>n (by rw [z]; exact .head _)) (fun z=>n (by rw [z]; exact .tail _ (.head _)))
theorem LkAt.keep {T S:List Addr} {H H':Hp} {v:V} {k:Lnk} (h:LkAt T H v k) (s:Keep S H H') (hs:∀ a∈S,a∈T):LkAt T H' v k:=by
  obtain ⟨q,a,b,c,d,e,n1,n2,n3,n4,n5,e1,e2,e3,e4,e5⟩:=h.ex
  exact ⟨q,a,b,c,d,e,n1,n2,n3,n4,n5,s _ _ e1 fun z=>n1 (hs _ z),s _ _ e2 fun z=>n2 (hs _ z),s _ _ e3 fun z=>n3 (hs _ z),s _ _ e4 fun z=>n4 (hs _ z),s _ _ e5 fun z=>n5 (hs _ z)⟩
theorem LksAt.keep {T S:List Addr} {H H':Hp} {lk:Addr} {ks:List Lnk} (h:LksAt T H lk ks) (s:Keep S H H') (hs:∀ a∈S,a∈T) (hl:lk ∉ S):LksAt T H' lk ks:=by
  obtain ⟨us,e,hn,f⟩:=h.ex
  exact ⟨us,s _ _ e hl,hn,fun i u k hu hk=>(f i u k hu hk).keep s hs⟩
theorem WhAt.keep {T S:List Addr} {H H':Hp} {dw:Addr} {P:List Prt} (h:WhAt T H dw P) (s:Keep S H H') (hs:∀ a∈S,a∈T) (hl:dw ∉ S):WhAt T H' dw P:=by
  obtain ⟨kt,e,hn,f⟩:=h.ex
  refine ⟨kt,s _ _ e hl,hn,fun p hp=>?_⟩
  obtain ⟨l,e1,e2,e3⟩:=f p hp
  exact ⟨l,e1,e2,s _ _ e3 fun z=>e2 (hs _ z)⟩
theorem MdAt.keep {S:List Addr} {H H':Hp} {M:Md} {L R:List Prt} {ks:List Lnk} {al:Nms} (h:MdAt S H M L R ks al) (s:Keep S H H'):MdAt S H' M L R ks al:=by
  have of:∀ {a:Addr} {o:HO},a∈M.all→H a=some o→H' a=some o:=fun ha e=>s _ _ e (h.off _ ha)
  have hs:∀ a∈S,a∈M.l0 :: M.l1 :: S:=fun a z=>.tail _ (.tail _ z)
  obtain ⟨kt,e,hn,f⟩:=h.t.ex
  refine ⟨of (by simp [Md.all]) h.m,⟨kt,of (by simp [Md.all]) e,hn,f⟩,h.w.keep s hs (h.off _ (by simp [Md.all])),of (by simp [Md.all]) h.lr,of (by simp [Md.all]) h.l0,of (by simp [Md.all]) h.l1,h.lk.keep s hs (h.off _ (by simp [Md.all])),of (by simp [Md.all]) h.la,h.off,h.nd⟩
theorem MdAt.same {S:List Addr} {H H':Hp} {M:Md} {L R:List Prt} {ks:List Lnk} {al:Nms} (h:MdAt S H M L R ks al) (s:Same H H'):MdAt S H' M L R ks al:=h.keep (.of s)
theorem mk1:(Sum.inr "text" : Key)≠(Sum.inr "when" : Key):=by decide +kernel
theorem mk2:(Sum.inr "text" : Key)≠(Sum.inr "rows" : Key):=by decide +kernel
theorem mk3:(Sum.inr "text" : Key)≠(Sum.inr "links" : Key):=by decide +kernel
theorem mk4:(Sum.inr "text" : Key)≠(Sum.inr "alone" : Key):=by decide +kernel
theorem mk5:(Sum.inr "when" : Key)≠(Sum.inr "rows" : Key):=by decide +kernel
theorem mk6:(Sum.inr "when" : Key)≠(Sum.inr "links" : Key):=by decide +kernel
theorem mk7:(Sum.inr "when" : Key)≠(Sum.inr "alone" : Key):=by decide +kernel
theorem mk8:(Sum.inr "rows" : Key)≠(Sum.inr "links" : Key):=by decide +kernel
theorem mk9:(Sum.inr "rows" : Key)≠(Sum.inr "alone" : Key):=by decide +kernel
theorem mk0:(Sum.inr "links" : Key)≠(Sum.inr "alone" : Key):=by decide +kernel
theorem v_text (M:Md):valV (mdK M) (Sum.inr "text" : Key)=some (V.ref M.dt):=(valV_pos rfl)
theorem g_text {H:Hp} {M:Md} (h:H M.m=some (.dK (mdK M))):DGet H M.m (.str "text") (some (.ref M.dt)):=by
  rw [← v_text M]
  exact DGet.k (k:=(Sum.inr _:Key)) h
theorem v_when (M:Md):valV (mdK M) (Sum.inr "when" : Key)=some (V.ref M.dw):=((valV_neg mk1).trans (valV_pos rfl))
theorem g_when {H:Hp} {M:Md} (h:H M.m=some (.dK (mdK M))):DGet H M.m (.str "when") (some (.ref M.dw)):=by
  rw [← v_when M]
  exact DGet.k (k:=(Sum.inr _:Key)) h
theorem v_rows (M:Md):valV (mdK M) (Sum.inr "rows" : Key)=some (V.ref M.lr):=((valV_neg mk2).trans ((valV_neg mk5).trans (valV_pos rfl)))
theorem g_rows {H:Hp} {M:Md} (h:H M.m=some (.dK (mdK M))):DGet H M.m (.str "rows") (some (.ref M.lr)):=by
  rw [← v_rows M]
  exact DGet.k (k:=(Sum.inr _:Key)) h
theorem v_links (M:Md):valV (mdK M) (Sum.inr "links" : Key)=some (V.ref M.lk):=((valV_neg mk3).trans ((valV_neg mk6).trans ((valV_neg mk8).trans (valV_pos rfl))))
theorem g_links {H:Hp} {M:Md} (h:H M.m=some (.dK (mdK M))):DGet H M.m (.str "links") (some (.ref M.lk)):=by
  rw [← v_links M]
  exact DGet.k (k:=(Sum.inr _:Key)) h
theorem v_alone (M:Md):valV (mdK M) (Sum.inr "alone" : Key)=some (V.ref M.la):=((valV_neg mk4).trans ((valV_neg mk7).trans ((valV_neg mk9).trans ((valV_neg mk0).trans (valV_pos rfl)))))
theorem g_alone {H:Hp} {M:Md} (h:H M.m=some (.dK (mdK M))):DGet H M.m (.str "alone") (some (.ref M.la)):=by
  rw [← v_alone M]
  exact DGet.k (k:=(Sum.inr _:Key)) h
def sideV (L R:List Prt) (x:List Nat):V:=if (partN (L++R) x).isSome=true then .int (sideP L x:Nat) else .non
def spSide:Sp:=fun vs H Q _=>∃ (S:List Addr) (M:Md) (L R:List Prt) (ks:List Lnk) (al:Nms) (x:List Nat),vs=[.ref M.m,mkT x]∧MdAt S H M L R ks al∧∀ H',Same H H'→Q (sideV L R x) H'
theorem row_at' {S:List Addr} {H:Hp} {M:Md} {L R:List Prt} {ks:List Lnk} {al:Nms} (h:MdAt S H M L R ks al) {n:Nat} (hn:n≤1):atI [V.ref M.l0,V.ref M.l1] (n:Nat)=some (.ref (M.ln n))∧H (M.ln n)=some (.lst (nmsOf (sdP n L R))):=by
  match n,hn with
  | 0,_=>exact ⟨atI_zero _ _,h.l0⟩
  | 1,_=>exact ⟨atI_nat (xs:=[V.ref M.l0,V.ref M.l1]) (j:=1) rfl,h.l1⟩
theorem side_0 {L R:List Prt} {x:List Nat} (h:x∈L.map (·.1)):sideV L R x=.int (0:Nat):=by
  have h1:(partN L x).isSome=true:=by rw [partN_mem]; exact decide_eq_true h
  have h2:(partN (L++R) x).isSome=true:=by rw [partN_mem]; exact decide_eq_true (by rw [List.map_append]; exact List.mem_append_left _ h)
  unfold sideV sideP
  rw [if_pos h2,if_pos h1]
theorem side_1 {L R:List Prt} {x:List Nat} (h0:x ∉ L.map (·.1)) (h:x∈R.map (·.1)):sideV L R x=.int (1:Nat):=by
  have h1:¬ (partN L x).isSome=true:=by rw [partN_mem]; simpa using h0
  have h2:(partN (L++R) x).isSome=true:=by rw [partN_mem]; exact decide_eq_true (by rw [List.map_append]; exact List.mem_append_right _ h)
  unfold sideV sideP
  rw [if_pos h2,if_neg h1]
theorem side_n {L R:List Prt} {x:List Nat} (h0:x ∉ L.map (·.1)) (h:x ∉ R.map (·.1)):sideV L R x=.non:=by
  have h2:¬ (partN (L++R) x).isSome=true:=by
    rw [partN_mem,decide_eq_true_eq,List.map_append,List.mem_append]
    exact fun z=>z.elim h0 h
  unfold sideV
  rw [if_neg h2]
section
variable {P:Program} {w:World} {K:PySem.W.Frag} {mg:Str→Option Value} {base:Heap}
theorem scSide:FnScope ["_law_model_here", "_law_name", "_law_side_here"] ["_law_model_here", "_law_name"] (defScope sSide):=⟨rfl,rfl,rfl,by decide +kernel,rfl,by decide +kernel,by decide +kernel⟩
theorem c_side (h:Has K mg "_law_side" sSide ["_law_model_here", "_law_name"])  : Cal P w K mg base "_law_side" 1 ["_law_model_here", "_law_name"] spSide:=by
  refine h.mk' scSide (fun vs H Q E hs=>?_) (fun f cdv A outer s H vs Q E hr hs=>?_)
  · obtain ⟨S,M,L,R,ks,al,x,rfl,_⟩:=hs
    rfl
  obtain ⟨S,M,L,R,ks,al,x,rfl,hM,k⟩:=hs
  refine ⟨_,(pss_cons (ps_for PassesOwn.never rfl (pi_tup (pe_tup (pa_cons pe_int (pa_cons pe_int pa_nil)))) (pg_name (i:=2) scSide.nd rfl (Or.inl rfl))
      (pss_one (ps_if (pt_cmpR op_in_seq (pv 1) (pe_ix ix_list (pe_dget (hu_of hr) (pv 0) pe_str (fun _ _=>rfl)) (pv 2) (fun _ _=>rfl)) (by with_unfolding_all rfl))
      (pss_one (ps_ret (pv 2)))
      pss_nil)))
    (pss_one (ps_ret pe_non))),?_⟩
  refine ⟨smn 2,fun tt htt=>⟨tt,rfl,⟨_,SqT.of upd_same⟩,?_⟩⟩
  have s1:=same_new htt (.tup [.int 0,.int 1])
  have ett:(upd H tt (.tup [.int 0,.int 1])) tt=some (.tup [.int 0,.int 1]):=upd_same
  generalize upd H tt (.tup [.int 0,.int 1])=H1 at s1 ett ⊢
  have hM1:=hM.same s1
  refine for_tup (K:=K) (a:=tt) (xs:=[.int 0,.int 1]) (fun i σ H2=>∃ v2:Option V,σ=[some (.ref M.m),some (mkT x),v2]∧H2=H1∧∀ j,j < i→x ∉ (sdP j L R).map (·.1)) ⟨_,rfl,rfl,fun j hj=>by omega⟩ ?_ ?_ ?_
  · rintro i σ H2 _ ⟨_,_,rfl,_⟩
    exact SqT.of ett
  · rintro i y σ H2 hi ⟨v2,rfl,rfl,hno⟩
    obtain ⟨hi1,rfl⟩:i≤1∧y=.int (i:Nat):=by
      match i,hi with
      | 0,hi=>exact ⟨by omega,(Option.some.inj hi).symm⟩
      | 1,hi=>exact ⟨by omega,(Option.some.inj hi).symm⟩
    obtain ⟨hat,hrow⟩:=row_at' hM1 hi1
    refine gN ⟨_,rfl,_,rfl,M.m,_,rfl,g_rows hM1.m,_,rfl,M.lr,_,_,_,rfl,rfl,SqL.of hM1.lr,hat,M.ln i,_,rfl,.inl (SqL.of hrow),rfl,by rw [nms_eq]; exact flat_nms _,_,rfl,?_⟩
    rw [show (if false=true then !inV (mkT x) (nmsOf (sdP i L R)) else inV (mkT x) (nmsOf (sdP i L R)))=inV (mkT x) (nmsOf (sdP i L R)) from rfl,nms_eq,in_nms]
    refine ite2 (fun z=>?_) (fun z=>?_)
    · have z:=of_decide_eq_true z
      have e:sideV L R x=.int (i:Nat):=by
        match i,hi1,z,hno with
        | 0,_,z,_=>exact side_0 z
        | 1,_,z,hno=>exact side_1 (hno 0 (by omega)) z
      refine ⟨_,rfl,?_⟩
      have:=k H2 s1
      rw [e] at this
      exact this
    · refine ⟨_,rfl,rfl,fun j hj=>?_⟩
      by_cases e:j=i
      · rw [e]
        exact fun q=>z (decide_eq_true q)
      · exact hno j (by omega)
  · rintro σ H2 ⟨v2,rfl,rfl,hno⟩
    have:=k H2 s1
    rw [side_n (L:=L) (R:=R) (hno 0 (by show 0 < 2; omega)) (hno 1 (by show 1 < 2; omega))] at this
    exact this
end
def errS:Option Nat→Str
  | none=>Str.ofString ""
  | some 0=>Str.ofString "NoPart"
  | some 1=>Str.ofString "NoPlace"
  | some _=>Str.ofString "Twice"
def spPutIn:Sp:=fun vs H Q _=>∃ (M:Md) (n:Nat) (b x:List Nat) (Z:List Prt) (q:Prt),vs=[.ref M.m,.int (n:Nat),mkT b,mkT x]∧n≤1∧H M.m=some (.dK (mdK M))∧H M.lr=some (.lst [.ref M.l0,.ref M.l1])∧H (M.ln n)=some (.lst (nmsOf Z))∧Z.length≤900∧(b=[]∨b∈Z.map (·.1))∧q.1=x ∧
  Q .non (upd H (M.ln n) (.lst (nmsOf (insP Z b q))))
def spBad:Sp:=fun vs H Q _=>∃ (S:List Addr) (M:Md) (L R:List Prt) (ks:List Lnk) (al:Nms) (n:Nat) (b:List Nat),vs=[.ref M.m,.int (n:Nat),mkT b]∧MdAt S H M L R ks al∧∀ H',Same H H'→Q (.str (errS (placeE L R n b))) H'
theorem ln_at {M:Md} {n:Nat} (hn:n≤1):atI [V.ref M.l0,V.ref M.l1] (n:Nat)=some (.ref (M.ln n)):=by
  match n,hn with
  | 0,_=>exact atI_zero _ _
  | 1,_=>exact atI_nat (xs:=[V.ref M.l0,V.ref M.l1]) (j:=1) rfl
theorem ne_e {b:List Nat}:(!decide (mkT b=V.str (Str.ofString "")))=true↔b≠[]:=by
  have e2:V.str (Str.ofString "")=mkT []:=by decide +kernel
  rw [e2,ez_t]
  simp
theorem eq_e {b:List Nat}:decide (mkT b=V.str (Str.ofString ""))=true↔b=[]:=by
  have e2:V.str (Str.ofString "")=mkT []:=by decide +kernel
  rw [e2,ez_t]
  simp
theorem ins_nms (Z:List Prt) (b:List Nat) (q:Prt):nmsOf (insP Z b q)=(nmsOf Z).take (plc Z b)++mkT q.1 :: (nmsOf Z).drop (plc Z b):=by
  unfold nmsOf insP
  rw [List.map_append,List.map_cons,List.map_take,List.map_drop]
theorem side_bad {L R:List Prt} {n:Nat} {b:List Nat} (hb:b≠[]):(sideV L R b=.int (n:Nat)→placeE L R n b=none)∧(sideV L R b=.non→placeE L R n b=some 0)∧(sideV L R b≠.int (n:Nat)→sideV L R b≠.non→placeE L R n b=some 1):=by
  unfold sideV placeE
  rw [if_neg hb]
  by_cases h:(partN (L++R) b).isSome=true
  · rw [if_pos h,if_pos h]
    refine ⟨fun z=>?_,(fun z=>nomatch z),fun z _=>?_⟩
    · injection z with z
      rw [if_pos (by omega)]
    · rw [if_neg fun q=>z (by rw [q])]
  · rw [if_neg h,if_neg h]
    exact ⟨(fun z=>nomatch z),fun _=>rfl,fun _ z=>absurd rfl z⟩
theorem sideV_scal {L R:List Prt} {b:List Nat} {n:Nat}:scal (sideV L R b) (.int (n:Nat))=true:=by
  unfold sideV
  split <;> rfl
section
variable {P:Program} {w:World} {K:PySem.W.Frag} {mg:Str→Option Value} {base:Heap}
theorem scPutIn:FnScope ["_law_model_here", "_law_side_here", "_law_behind", "_law_name", "_law_row", "_law_at"] ["_law_model_here", "_law_side_here", "_law_behind", "_law_name"] (defScope sPutIn):=⟨rfl,rfl,rfl,by decide +kernel,rfl,by decide +kernel,by decide +kernel⟩
theorem c_put_in (h:Has K mg "_law_put_in" sPutIn ["_law_model_here", "_law_side_here", "_law_behind", "_law_name"])  : Cal P w K mg base "_law_put_in" 1 ["_law_model_here", "_law_side_here", "_law_behind", "_law_name"] spPutIn:=by
  refine h.mk' scPutIn (fun vs H Q E hs=>?_) (fun f cdv A outer s H vs Q E hr hs=>?_)
  · obtain ⟨M,n,b,x,Z,q,rfl,_⟩:=hs
    rfl
  obtain ⟨M,n,b,x,Z,q,rfl,hn,hm,hlr,hrow,hZ,hb,hq,k⟩:=hs
  refine ⟨_,(pss_cons (ps_set (i:=4) scPutIn.nd rfl (Or.inl rfl) (pe_ix ix_list (pe_dget (hu_of hr) (pv 0) pe_str (fun _ _=>rfl)) (pv 1) (fun _ _=>rfl)))
    (pss_cons (ps_set (i:=5) scPutIn.nd rfl (Or.inl rfl) pe_int)
    (pss_cons (ps_if (pt_cmpR op_ne (pv 2) pe_str (nomark _))
      (pss_one (ps_set (i:=5) scPutIn.nd rfl (Or.inl rfl) (pe_op op_add (pe_bm PySem.F.plainAttrs_list PySem.F.slot_list_index PySem.F.type_list_index mt_indexL (pv 4) (pa_cons (pv 2) pa_nil)) pe_int)))
      pss_nil)
    (pss_one (ps_expr (pe_bm PySem.F.plainAttrs_list PySem.F.slot_list_insert PySem.F.type_list_insert mt_insert (pv 4) (pa_cons (pv 5) (pa_cons (pv 3) pa_nil)))))))),?_⟩
  have hpl:=plc_le hb
  have hnl:(nmsOf Z).length=Z.length:=by unfold nmsOf; rw [List.length_map]
  refine ⟨_,rfl,M.m,_,rfl,g_rows hm,_,rfl,M.lr,_,_,_,rfl,rfl,SqL.of hlr,ln_at hn,?_⟩
  refine nxP (fun σ H'=>σ=[some (.ref M.m),some (.int (n:Nat)),some (mkT b),some (mkT x),some (.ref (M.ln n)),some (.int 0)]∧H'=H) (fun N hN=>hN _ _ ⟨rfl,rfl⟩) ?_
  rintro σ H1 ⟨rfl,rfl⟩
  refine seqP (fun σ H'=>σ=[some (.ref M.m),some (.int (n:Nat)),some (mkT b),some (mkT x),some (.ref (M.ln n)),some (.int (plc Z b:Nat))]∧H'=H1) (fun N hN=>?_) ?_
  · refine ⟨_,rfl,rfl,_,rfl,?_⟩
    refine ite2 (fun z=>?_) (fun z=>?_)
    · have hb0:b≠[]:=ne_e.mp z
      obtain ⟨hj,h1,h2⟩:=find_lt (hb.resolve_left hb0)
      have hpe:plc Z b=(Z.findIdx fun p=>decide (p.1=b))+1:=by
        unfold plc
        rw [if_neg hb0]
      generalize (Z.findIdx fun p=>decide (p.1=b))=j at hj h1 h2 hpe
      have hat:(nmsOf Z)[j]?=some (mkT Z[j].1):=by
        unfold nmsOf
        rw [List.getElem?_map,ex_at hj]
        rfl
      refine ⟨_,rfl,.inl ⟨rfl,_,SqL.of hrow⟩,_,rfl,M.ln n,_,mkT b,_,j,rfl,rfl,hrow,rfl,by rw [nms_eq]; exact flat_nms _,hat,by rw [eqV_t]; exact decide_eq_true h1,fun i z hi hz=>?_,_,_,rfl,rfl,hN _ _ ⟨?_,rfl⟩⟩
      · unfold nmsOf at hz
        rw [List.getElem?_map,ex_at (show i < Z.length by omega)] at hz
        rw [← Option.some.inj hz,eqV_t]
        exact decide_eq_false (h2 i (by omega) hi)
      · rw [hpe]
        rfl
    · have hb0:b=[]:=by
        by_cases e:b=[]
        · exact e
        · exact absurd (ne_e.mpr e) z
      refine hN _ _ ⟨?_,rfl⟩
      unfold plc
      rw [if_pos hb0]
      rfl
  rintro σ H1 ⟨rfl,rfl⟩
  refine ⟨_,rfl,.inl ⟨rfl,_,SqL.of hrow⟩,_,rfl,_,rfl,M.ln n,_,_,mkT x,plc Z b,rfl,rfl,rfl,hrow,by omega,by omega,?_⟩
  rw [ins_nms,hq] at k
  exact k
theorem scBadPlace:FnScope ["_law_model_here", "_law_side_here", "_law_behind"] ["_law_model_here", "_law_side_here", "_law_behind"] (defScope sBadPlace):=⟨rfl,rfl,rfl,by decide +kernel,rfl,by decide +kernel,by decide +kernel⟩
theorem c_bad_place (h:Has K mg "_law_bad_place" sBadPlace ["_law_model_here", "_law_side_here", "_law_behind"]) (C_side:Cal P w K mg base "_law_side" 1 ["_law_model_here", "_law_name"] spSide):Cal P w K mg base "_law_bad_place" 2 ["_law_model_here", "_law_side_here", "_law_behind"] spBad:=by
  refine h.mk' scBadPlace (fun vs H Q E hs=>?_) (fun f cdv A outer s H vs Q E hr hs=>?_)
  · obtain ⟨S,M,L,R,ks,al,n,b,rfl,_⟩:=hs
    rfl
  obtain ⟨S,M,L,R,ks,al,n,b,rfl,hM,k⟩:=hs
  refine ⟨_,(pss_cons (ps_if (PW.pt (pw_or (pt_cmpR op_eq (pv 2) pe_str (nomark _)) (pw_or1 (pt_cmpR op_eq (pe_cal C_side hr (by decide) rfl (pa_cons (pv 0) (pa_cons (pv 2) pa_nil))) (pv 1) (nomark _)))))
      (pss_one (ps_ret pe_str))
      pss_nil)
    (pss_cons (ps_if (pt_cmpR op_isN (pe_cal C_side hr (by decide) rfl (pa_cons (pv 0) (pa_cons (pv 2) pa_nil))) pe_non (nomark _))
      (pss_one (ps_ret pe_str))
      pss_nil)
    (pss_one (ps_ret pe_str)))),?_⟩
  have e0:errS none=Str.ofString "":=rfl
  refine seqP (fun σ H'=>σ=[some (.ref M.m),some (.int (n:Nat)),some (mkT b)]∧Same H H'∧b≠[]∧sideV L R b≠.int (n:Nat)) (fun N hN=>?_) ?_
  · refine ⟨_,rfl,rfl,_,rfl,?_⟩
    refine ite2 (fun z=>?_) (fun z=>?_)
    · have hb0:b=[]:=eq_e.mp z
      have:=k H (Same.refl _)
      rw [place_ok (.inl hb0)] at this
      exact this
    · have hb0:b≠[]:=fun e=>z (eq_e.mpr e)
      refine ⟨_,rfl,_,rfl,S,M,L,R,ks,al,b,rfl,hM,fun H1 s1=>?_⟩
      refine ⟨_,rfl,sideV_scal,_,rfl,?_⟩
      refine ite2 (fun z=>?_) (fun z=>?_)
      · have:=k H1 s1
        rw [(side_bad hb0).1 (of_decide_eq_true z)] at this
        exact this
      · exact hN _ _ ⟨rfl,s1,hb0,fun q=>z (decide_eq_true q)⟩
  rintro σ H1 ⟨rfl,s1,hb0,hne⟩
  obtain ⟨_,p0,p1⟩:=side_bad (L:=L) (R:=R) (n:=n) hb0
  refine ⟨_,rfl,_,rfl,S,M,L,R,ks,al,b,rfl,hM.same s1,fun H2 s2=>?_⟩
  have kk:=k H2 (s1.trans s2)
  by_cases h:sideV L R b=.non
  · rw [h]
    rw [p0 h] at kk
    exact ⟨rfl,_,rfl,iteT kk⟩
  · rw [p1 hne h] at kk
    exact ⟨rfl,_,rfl,ite2 (fun z=>absurd (of_decide_eq_true z) h) fun _=>kk⟩
end
theorem putK_len {κ:Type} [DecidableEq κ] (kvs:List (κ × V)) (k:κ) (v:V):(putK kvs k v).length≤kvs.length+1:=by
  unfold putK
  split
  · rw [List.length_map]; omega
  · rw [List.length_append]; exact Nat.le_refl _
theorem LkAt.keepL {T:List Addr} {H H':Hp} {v:V} {k:Lnk} (h:LkAt T H v k) (s:∀ (a:Addr) (vs:List V),H a=some (.lst vs)→a ∉ T→H' a=some (.lst vs)):LkAt T H' v k:=by
  obtain ⟨q,a,b,c,d,e,n1,n2,n3,n4,n5,e1,e2,e3,e4,e5⟩:=h.ex
  exact ⟨q,a,b,c,d,e,n1,n2,n3,n4,n5,s _ _ e1 n1,s _ _ e2 n2,s _ _ e3 n3,s _ _ e4 n4,s _ _ e5 n5⟩
theorem ln_in (M:Md) (n:Nat):M.ln n=M.l0∨M.ln n=M.l1:=by
  unfold Md.ln
  split
  · exact .inl rfl
  · exact .inr rfl
theorem MdAt.nes {S:List Addr} {H:Hp} {M:Md} {L R:List Prt} {ks:List Lnk} {al:Nms} (h:MdAt S H M L R ks al):(M.l0≠M.l1∧M.lr≠M.l0∧M.lr≠M.l1∧M.lk≠M.l0∧M.lk≠M.l1∧M.la≠M.l0∧M.la≠M.l1)∧M.m≠M.dt∧M.m≠M.dw∧M.dt≠M.dw:=by
  have:=h.nd
  unfold Md.all at this
  simp only [List.nodup_cons,List.mem_cons,List.not_mem_nil,or_false,not_or,not_false_eq_true,and_true] at this
  obtain ⟨⟨a1,a2,_⟩,⟨b1,_⟩,_,⟨d1,d2,_⟩,⟨e1,e2,e3⟩,⟨f1,f2⟩,_⟩:=this
  exact ⟨⟨e1,d1,d2,Ne.symm e2,Ne.symm f1,Ne.symm e3,Ne.symm f2⟩,a1,a2,b1⟩
theorem lst_ne {H:Hp} {a d:Addr} {vs:List V} {kv:List (Key × V)} (h1:H a=some (.lst vs)) (h2:H d=some (.dK kv)):a≠d:=ne_of h1 h2 (by intro z; cases z)
theorem MdAt.chg {S:List Addr} {H H':Hp} {M:Md} {L R Z:List Prt} {ks:List Lnk} {al:Nms} {n:Nat} (h:MdAt S H M L R ks al) (hn:n≤1) (kL:∀ (a:Addr) (vs:List V),H a=some (.lst vs)→a≠M.ln n→H' a=some (.lst vs)) (hm:H' M.m=some (.dK (mdK M))) (hr:H' (M.ln n)=some (.lst (nmsOf Z)))
    (ht:TxAt H' M.dt ((withSide n L R Z).1++(withSide n L R Z).2)) (hw:WhAt (M.l0 :: M.l1 :: S) H' M.dw ((withSide n L R Z).1++(withSide n L R Z).2)):MdAt S H' M (withSide n L R Z).1 (withSide n L R Z).2 ks al:=by
  obtain ⟨⟨n1,n2,n3,n4,n5,n6,n7⟩,_⟩:=h.nes
  have nl:∀ {a:Addr},a≠M.l0→a≠M.l1→a≠M.ln n:=fun h0 h1 z=>by
    rcases ln_in M n with e | e
    · exact h0 (z.trans e)
    · exact h1 (z.trans e)
  obtain ⟨us,e1,e2,e3⟩:=h.lk.ex
  refine ⟨hm,ht,hw,kL _ _ h.lr (nl n2 n3),?_,?_,⟨us,kL _ _ e1 (nl n4 n5),e2,fun i u k hu hk=>(e3 i u k hu hk).keepL fun a vs ha hna=>kL a vs ha (nl (fun z=>hna (by rw [z]; exact .head _)) fun z=>hna (by rw [z]; exact .tail _ (.head _)))⟩,kL _ _ h.la (nl n6 n7),h.off,h.nd⟩
  · match n,hn with
    | 0,_=>exact hr
    | 1,_=>exact kL _ _ h.l0 n1
  · match n,hn with
    | 0,_=>exact kL _ _ h.l1 (Ne.symm n1)
    | 1,_=>exact hr
theorem mem_ws {L R Z:List Prt} {n:Nat} {p:Prt} (h:p∈(withSide n L R Z).1++(withSide n L R Z).2):p∈Z∨p∈L++R:=by
  unfold withSide at h
  split at h
  · rcases List.mem_append.mp h with h | h
    · exact .inl h
    · exact .inr (List.mem_append_right _ h)
  · rcases List.mem_append.mp h with h | h
    · exact .inr (List.mem_append_left _ h)
    · exact .inl h
theorem mem_sd {L R:List Prt} {n:Nat} {p:Prt} (h:p∈sdP n L R):p∈L++R:=by
  unfold sdP at h
  split at h
  · exact List.mem_append_left _ h
  · exact List.mem_append_right _ h
theorem len_ws (L R Z:List Prt) (n:Nat):((withSide n L R Z).1++(withSide n L R Z).2).length+(sdP n L R).length=(L++R).length+Z.length:=by
  unfold withSide sdP
  split <;> simp only [List.length_append] <;> omega
theorem mem_ins {Z:List Prt} {b:List Nat} {q p:Prt} (h:p∈insP Z b q):p=q∨p∈Z:=by
  unfold insP at h
  rcases List.mem_append.mp h with h | h
  · exact .inr (List.mem_of_mem_take h)
  · rcases List.mem_cons.mp h with h | h
    · exact .inl h
    · exact .inr (List.mem_of_mem_drop h)
theorem len_ins (Z:List Prt) (b:List Nat) (q:Prt):(insP Z b q).length=Z.length+1:=by
  unfold insP
  rw [List.length_append,List.length_cons,List.length_take,List.length_drop]
  omega
theorem out_erase {x:List Nat}:∀ {Z:List Prt} {j:Nat} (hj:j < Z.length),(Z.map (·.1)).Nodup→Z[j].1=x→outP Z x=Z.eraseIdx j
  | p :: Z,0,_,hn,e=>by
    have e:p.1=x:=e
    rw [List.map_cons,List.nodup_cons] at hn
    unfold outP
    rw [List.filter_cons_of_neg (by simpa using e)]
    show List.filter _ Z=Z
    rw [List.filter_eq_self]
    intro q hq
    exact decide_eq_true fun z=>hn.1 (List.mem_map.mpr ⟨q,hq,z.trans e.symm⟩)
  | p :: Z,j+1,hj,hn,e=>by
    have hj':j < Z.length:=by simpa using hj
    have e':Z[j].1=x:=e
    rw [List.map_cons,List.nodup_cons] at hn
    have ih:=out_erase hj' hn.2 e'
    have hp:p.1≠x:=fun z=>hn.1 (List.mem_map.mpr ⟨Z[j],List.getElem_mem hj',e'.trans z.symm⟩)
    unfold outP at ih ⊢
    rw [List.filter_cons_of_pos (by simpa using hp),ih]
    rfl
def spPutL:Sp:=fun vs H Q _=>∃ (S:List Addr) (M:Md) (L R:List Prt) (ks:List Lnk) (al:Nms) (pd:Addr) (t:Int) (n:Nat) (b x tx:List Nat),vs=[.ref M.m,.ref pd]∧MdAt S H M L R ks al∧(∀ a∈S,∃ o,H a=some o)∧H pd=some (.tup [.str WPUT,.int t,.int (n:Nat),mkT b,mkT x,mkT tx])∧n≤1∧(L++R).length≤200 ∧
  (∀ e,putE L R n b x=some e→∀ H',Same H H'→Q (.str (errS (some e))) H') ∧
  (putE L R n b x=none→∀ H',Keep [M.l0,M.l1,M.dt,M.dw] H H'→MdAt S H' M (withSide n L R (insP (sdP n L R) b (x,tx,[t]))).1 (withSide n L R (insP (sdP n L R) b (x,tx,[t]))).2 ks al→Q (.str (errS none)) H')
def spMoveL:Sp:=fun vs H Q _=>∃ (S:List Addr) (M:Md) (L R:List Prt) (ks:List Lnk) (al:Nms) (pd:Addr) (t:Int) (b x:List Nat),vs=[.ref M.m,.ref pd]∧MdAt S H M L R ks al∧H pd=some (.tup [.str WMOVE,.int t,mkT x,mkT b])∧(L++R).length≤200∧((L++R).map (·.1)).Nodup ∧
  (∀ e,moveE L R x b=some e→∀ H',Same H H'→Q (.str (errS (some e))) H') ∧
  (moveE L R x b=none→∀ q,partN (L++R) x=some q→∀ H',Keep [M.l0,M.l1,M.dt,M.dw] H H'→MdAt S H' M (withSide (sideP L x) L R (insP (outP (sdP (sideP L x) L R) x) b q)).1 (withSide (sideP L x) L R (insP (outP (sdP (sideP L x) L R) x) b q)).2 ks al→Q (.str (errS none)) H')
theorem sideV_none {L R:List Prt} {x:List Nat}:sideV L R x=.non↔¬ (partN (L++R) x).isSome=true:=by
  unfold sideV
  split
  · rename_i h
    exact ⟨(fun z=>nomatch z),fun z=>absurd h z⟩
  · rename_i h
    exact ⟨fun _=>h,fun _=>rfl⟩
theorem err_ne {o:Option Nat}:(!decide (V.str (errS o)=V.str (Str.ofString "")))=true↔o≠none:=by
  match o with
  | none=>exact ⟨fun z=>absurd z (by decide +kernel),fun z=>absurd rfl z⟩
  | some 0=>exact ⟨fun _ z=>(nomatch z),fun _=>by decide +kernel⟩
  | some 1=>exact ⟨fun _ z=>(nomatch z),fun _=>by decide +kernel⟩
  | some (n+2)=>exact ⟨fun _ z=>(nomatch z),fun _=>by show (!decide (V.str (Str.ofString "Twice")=V.str (Str.ofString "")))=true; decide +kernel⟩
section
variable {P:Program} {w:World} {K:PySem.W.Frag} {mg:Str→Option Value} {base:Heap}
theorem scPut:FnScope ["_law_model_here", "_law_deed_here", "_law_word", "_law_t", "_law_side_here", "_law_behind", "_law_name", "_law_text_here"] ["_law_model_here", "_law_deed_here"] (defScope sPut):=⟨rfl,rfl,rfl,by decide +kernel,rfl,by decide +kernel,by decide +kernel⟩
theorem c_put (h:Has K mg "_law_put" sPut ["_law_model_here", "_law_deed_here"]) (C_bad_place:Cal P w K mg base "_law_bad_place" 2 ["_law_model_here", "_law_side_here", "_law_behind"] spBad) (C_side:Cal P w K mg base "_law_side" 1 ["_law_model_here", "_law_name"] spSide) (C_put_in:Cal P w K mg base "_law_put_in" 1 ["_law_model_here", "_law_side_here", "_law_behind", "_law_name"] spPutIn):Cal P w K mg base "_law_put" 3 ["_law_model_here", "_law_deed_here"] spPutL:=by
  refine h.mk' scPut (fun vs H Q E hs=>?_) (fun f cdv A outer s H vs Q E hr hs=>?_)
  · obtain ⟨S,M,L,R,ks,al,pd,t,n,b,x,tx,rfl,_⟩:=hs
    rfl
  obtain ⟨S,M,L,R,ks,al,pd,t,n,b,x,tx,rfl,hM,hS,hd,hn,hlen,k1,k2⟩:=hs
  refine ⟨_,(pss_cons (ps_asg (pv 1) (pg_tup (n:=6) rfl (pgs_cons (pg_name (i:=2) scPut.nd rfl (Or.inl rfl)) (pgs_cons (pg_name (i:=3) scPut.nd rfl (Or.inl rfl)) (pgs_cons (pg_name (i:=4) scPut.nd rfl (Or.inl rfl)) (pgs_cons (pg_name (i:=5) scPut.nd rfl (Or.inl rfl)) (pgs_cons (pg_name (i:=6) scPut.nd rfl (Or.inl rfl)) (pgs_cons (pg_name (i:=7) scPut.nd rfl (Or.inl rfl)) pgs_nil))))))))
    (pss_cons (ps_if (pt_cmpR op_ne (pe_cal C_bad_place hr (by decide) rfl (pa_cons (pv 0) (pa_cons (pv 4) (pa_cons (pv 5) pa_nil)))) pe_str (nomark _))
      (pss_one (ps_ret (pe_cal C_bad_place hr (by decide) rfl (pa_cons (pv 0) (pa_cons (pv 4) (pa_cons (pv 5) pa_nil))))))
      pss_nil)
    (pss_cons (ps_if (pt_cmpR op_notN (pe_cal C_side hr (by decide) rfl (pa_cons (pv 0) (pa_cons (pv 6) pa_nil))) pe_non (nomark _))
      (pss_one (ps_ret pe_str))
      pss_nil)
    (pss_cons (ps_expr (pe_cal C_put_in hr (by decide) rfl (pa_cons (pv 0) (pa_cons (pv 4) (pa_cons (pv 5) (pa_cons (pv 6) pa_nil))))))
    (pss_cons (ps_dput (hu_of hr) (pe_dget (hu_of hr) (pv 0) pe_str (fun _ _=>rfl)) (pv 6) (pv 7) rfl)
    (pss_cons (ps_dput (hu_of hr) (pe_dget (hu_of hr) (pv 0) pe_str (fun _ _=>rfl)) (pv 6) (pe_lst (pa_cons (pv 3) pa_nil)) rfl)
    (pss_one (ps_ret pe_str)))))))),?_⟩
  refine ⟨_,rfl,pd,_,rfl,SqT.of hd,rfl,_,_,rfl,_,_,rfl,_,_,rfl,_,_,rfl,_,_,rfl,_,_,rfl,rfl,?_⟩
  refine nxP (fun σ H'=>σ=[some (.ref M.m),some (.ref pd),some (.str WPUT),some (.int t),some (.int (n:Nat)),some (mkT b),some (mkT x),some (mkT tx)]∧Same H H'∧placeE L R n b=none) (fun N hN=>?_) ?_
  · refine ⟨_,rfl,_,rfl,_,rfl,S,M,L,R,ks,al,n,b,rfl,hM,fun H1 s1=>⟨rfl,_,rfl,?_⟩⟩
    refine ite2 (fun z=>?_) (fun z=>?_)
    · obtain ⟨e,he⟩:=Option.ne_none_iff_exists'.mp (err_ne.mp z)
      refine ⟨_,rfl,_,rfl,_,rfl,S,M,L,R,ks,al,n,b,rfl,hM.same s1,fun H2 s2=>?_⟩
      rw [he]
      exact k1 e (by unfold putE; rw [he]; rfl) H2 (s1.trans s2)
    · refine hN _ _ ⟨rfl,s1,?_⟩
      cases h:placeE L R n b with
      | none=>rfl
      | some e=>exact absurd (err_ne.mpr (by rw [h]; exact fun z=>(nomatch z))) z
  rintro σ H1 ⟨rfl,s1,hp⟩
  refine seqP (fun σ H'=>σ=[some (.ref M.m),some (.ref pd),some (.str WPUT),some (.int t),some (.int (n:Nat)),some (mkT b),some (mkT x),some (mkT tx)]∧Same H H'∧¬ (partN (L++R) x).isSome=true) (fun N hN=>?_) ?_
  · refine ⟨_,rfl,_,rfl,S,M,L,R,ks,al,x,rfl,hM.same s1,fun H2 s2=>⟨rfl,_,rfl,?_⟩⟩
    refine ite2 (fun z=>?_) (fun z=>?_)
    · have hx:(partN (L++R) x).isSome=true:=by
        by_cases h:(partN (L++R) x).isSome=true
        · exact h
        · rw [sideV_none.mpr h] at z
          exact absurd z (by decide)
      exact k1 2 (by unfold putE; rw [hp,if_pos hx]; rfl) H2 (s1.trans s2)
    · refine hN _ _ ⟨rfl,s1.trans s2,fun h=>z ?_⟩
      rw [decide_eq_false fun q=>sideV_none.mp q h]
      rfl
  clear s1 H1
  rintro σ H2 ⟨rfl,s2,hx⟩
  have hE:putE L R n b x=none:=by
    unfold putE
    rw [hp,if_neg hx]
    rfl
  have hM2:=hM.same s2
  have hsl:(sdP n L R).length≤200:=by unfold sdP; rw [List.length_append] at hlen; split <;> omega
  have hin:b=[]∨b∈(sdP n L R).map (·.1):=(place_none hp).imp id fun ⟨z1,z2⟩=>by rw [← z2]; exact mem_side z1
  refine ⟨_,rfl,_,rfl,_,rfl,_,rfl,M,n,b,x,sdP n L R,(x,tx,[t]),rfl,hn,hM2.m,hM2.lr,(row_at' hM2 hn).2,by omega,hin,rfl,?_⟩
  obtain ⟨kt,et,hkl,hkt⟩:=hM2.t.ex
  obtain ⟨kw,ew,hwl,hkw⟩:=hM2.w.ex
  have rn:=(row_at' hM2 hn).2
  obtain ⟨⟨n1,n2,n3,n4,n5,n6,n7⟩,m1,m2,m3⟩:=hM.nes
  have q1:M.ln n≠M.dt:=lst_ne rn et
  have q2:M.ln n≠M.dw:=lst_ne rn ew
  have q3:M.ln n≠M.m:=lst_ne rn hM2.m
  have a1:(upd H2 (M.ln n) (.lst (nmsOf (insP (sdP n L R) b (x,tx,[t]))))) M.m=some (.dK (mdK M)):=by rw [upd_ne (Ne.symm q3)]; exact hM2.m
  have a2:(upd H2 (M.ln n) (.lst (nmsOf (insP (sdP n L R) b (x,tx,[t]))))) M.dt=some (.dK kt):=by rw [upd_ne (Ne.symm q1)]; exact et
  have a3:(upd H2 (M.ln n) (.lst (nmsOf (insP (sdP n L R) b (x,tx,[t]))))) M.dw=some (.dK kw):=by rw [upd_ne (Ne.symm q2)]; exact ew
  have a4:(upd H2 (M.ln n) (.lst (nmsOf (insP (sdP n L R) b (x,tx,[t]))))) (M.ln n)=some (.lst (nmsOf (insP (sdP n L R) b (x,tx,[t])))):=upd_same
  have a5:∀ (a:Addr) (o:HO),H2 a=some o→a≠M.ln n→(upd H2 (M.ln n) (.lst (nmsOf (insP (sdP n L R) b (x,tx,[t]))))) a=some o:=fun a o h hne=>by rw [upd_ne hne]; exact h
  generalize upd H2 (M.ln n) (.lst (nmsOf (insP (sdP n L R) b (x,tx,[t]))))=H3 at a1 a2 a3 a4 a5
  refine ⟨_,rfl,_,rfl,M.m,_,rfl,g_text a1,_,rfl,M.dt,_,rfl,DPut.k (k:=nk x) a2 (small1000 (by omega)),?_⟩
  have b1:(upd H3 M.dt (.dK (putK kt (nk x) (mkT tx)))) M.m=some (.dK (mdK M)):=by rw [upd_ne m1]; exact a1
  have b2:(upd H3 M.dt (.dK (putK kt (nk x) (mkT tx)))) M.dt=some (.dK (putK kt (nk x) (mkT tx))):=upd_same
  have b3:(upd H3 M.dt (.dK (putK kt (nk x) (mkT tx)))) M.dw=some (.dK kw):=by rw [upd_ne (Ne.symm m3)]; exact a3
  have b5:∀ (a:Addr) (o:HO),H3 a=some o→a≠M.dt→(upd H3 M.dt (.dK (putK kt (nk x) (mkT tx)))) a=some o:=fun a o h hne=>by rw [upd_ne hne]; exact h
  generalize upd H3 M.dt (.dK (putK kt (nk x) (mkT tx)))=H4 at b1 b2 b3 b5
  refine ⟨_,rfl,smn 1,fun l hl=>?_⟩
  have s5:=same_new hl (.lst [.int t])
  have c4:(upd H4 l (.lst [.int t])) l=some (.lst [.int t]):=upd_same
  have hlS:l ∉ M.l0 :: M.l1 :: S:=fun z=>by
    have hal:∀ {a:Addr} {o:HO},H2 a=some o→l≠a:=fun {a o} h e=>by
      subst e
      by_cases e1:l=M.ln n
      · rw [b5 _ _ (by rw [e1]; exact a4) (by rw [e1]; exact q1)] at hl
        cases hl
      · by_cases e2:l=M.dt
        · rw [e2,b2] at hl
          cases hl
        · rw [b5 _ _ (a5 _ _ h e1) e2] at hl
          cases hl
    rcases List.mem_cons.mp z with z | z
    · exact hal hM2.l0 z
    · rcases List.mem_cons.mp z with z | z
      · exact hal hM2.l1 z
      · obtain ⟨o,ho⟩:=hS l z
        exact hal (s2 _ _ ho) rfl
  have hl4:∀ {a:Addr} {o:HO},H4 a=some o→a≠l:=fun h=>ne_of_none h hl
  generalize upd H4 l (.lst [.int t])=H5 at s5 c4 ⊢
  refine ⟨_,rfl,M.m,_,rfl,g_when (s5 _ _ b1),_,rfl,M.dw,_,rfl,DPut.k (k:=nk x) (s5 _ _ b3) (small1000 (by omega)),?_⟩
  have kp:∀ (a:Addr) (o:HO),H2 a=some o→a≠M.ln n→a≠M.dt→a≠M.dw→(upd H5 M.dw (.dK (putK kw (nk x) (.ref l)))) a=some o:=fun a o h h1 h2 h3=>by
    rw [upd_ne h3]
    exact s5 _ _ (b5 _ _ (a5 _ _ h h1) h2)
  refine k2 hE _ (fun a o h hna=>?_) (hM2.chg hn (fun a vs h hne=>kp a _ h hne (lst_ne h et) (lst_ne h ew)) (kp _ _ hM2.m (Ne.symm q3) m1 m2) ?_ ?_ ?_)
  · have hne:∀ {c:Addr},c∈[M.l0,M.l1,M.dt,M.dw]→a≠c:=fun hc z=>hna (by rw [z]; exact hc)
    refine kp a o (s2 _ _ h) ?_ (hne (by simp)) (hne (by simp))
    rcases ln_in M n with e | e <;> rw [e] <;> exact hne (by simp)
  · rw [upd_ne q2]
    exact s5 _ _ (b5 _ _ a4 q1)
  · refine ⟨putK kt (nk x) (mkT tx),by rw [upd_ne m3]; exact s5 _ _ b2,?_,fun p hp'=>?_⟩
    · have h1:=putK_len kt (nk x) (mkT tx)
      have h2:=len_ws L R (insP (sdP n L R) b (x,tx,[t])) n
      have h3:=len_ins (sdP n L R) b (x,tx,[t])
      omega
    · rw [valV_put]
      by_cases e:p.1=x
      · rw [if_pos (by rw [e])]
        rcases mem_ws hp' with h | h
        · rcases mem_ins h with h | h
          · rw [h]
          · exact absurd (by rw [partN_mem]; exact decide_eq_true (List.mem_map.mpr ⟨p,mem_sd h,e⟩)) hx
        · exact absurd (by rw [partN_mem]; exact decide_eq_true (List.mem_map.mpr ⟨p,h,e⟩)) hx
      · rw [if_neg fun z=>e (nk_inj z)]
        rcases mem_ws hp' with h | h
        · rcases mem_ins h with h | h
          · exact absurd (by rw [h]) e
          · exact hkt p (mem_sd h)
        · exact hkt p h
  · refine ⟨putK kw (nk x) (.ref l),upd_same,?_,fun p hp'=>?_⟩
    · have h1:=putK_len kw (nk x) (.ref l)
      have h2:=len_ws L R (insP (sdP n L R) b (x,tx,[t])) n
      have h3:=len_ins (sdP n L R) b (x,tx,[t])
      omega
    · rw [valV_put]
      have old:p∈L++R→p.1≠x→∃ l',valV kw (nk p.1)=some (.ref l')∧l' ∉ M.l0 :: M.l1 :: S∧(upd H5 M.dw (.dK (putK kw (nk x) (.ref l)))) l'=some (.lst (p.2.2.map V.int)):=fun h _=>by
        obtain ⟨l',w1,w2,w3⟩:=hkw p h
        refine ⟨l',w1,w2,kp _ _ w3 (fun z=>?_) (lst_ne w3 et) (lst_ne w3 ew)⟩
        rcases ln_in M n with e | e
        · exact w2 (by rw [z,e]; exact .head _)
        · exact w2 (by rw [z,e]; exact .tail _ (.head _))
      by_cases e:p.1=x
      · rw [if_pos (by rw [e])]
        have hpq:p=(x,tx,[t]):=by
          rcases mem_ws hp' with h | h
          · rcases mem_ins h with h | h
            · exact h
            · exact absurd (by rw [partN_mem]; exact decide_eq_true (List.mem_map.mpr ⟨p,mem_sd h,e⟩)) hx
          · exact absurd (by rw [partN_mem]; exact decide_eq_true (List.mem_map.mpr ⟨p,h,e⟩)) hx
        refine ⟨l,rfl,hlS,?_⟩
        rw [upd_ne (Ne.symm (hl4 b3)),hpq]
        exact c4
      · rw [if_neg fun z=>e (nk_inj z)]
        rcases mem_ws hp' with h | h
        · rcases mem_ins h with h | h
          · exact absurd (by rw [h]) e
          · exact old (mem_sd h) e
        · exact old h e
end
theorem partN_some {L:List Prt} {x:List Nat} {q:Prt} (h:partN L x=some q):q∈L∧q.1=x:=⟨List.mem_of_find?_eq_some h,of_decide_eq_true (List.find?_some (p:=fun p:Prt=>decide (p.1=x)) h)⟩
theorem nms_str (Z:List Prt):nmsOf Z=(Z.map fun p=>(⟨p.1.toArray⟩:Str)).map V.str:=by
  unfold nmsOf
  rw [List.map_map]
  rfl
theorem nodup_sd {L R:List Prt} {n:Nat} (h:((L++R).map (·.1)).Nodup):((sdP n L R).map (·.1)).Nodup:=by
  rw [List.map_append,List.nodup_append] at h
  unfold sdP
  split
  · exact h.1
  · exact h.2.1
theorem eraseM {α β:Type} (f:α→β):∀ (xs:List α) (j:Nat),(xs.map f).eraseIdx j=(xs.eraseIdx j).map f
  | [],_=>rfl
  | _ :: _,0=>rfl
  | x :: xs,j+1=>congrArg (f x :: ·) (eraseM f xs j)
def spDo:Sp:=fun vs H Q E=>spPutL vs H Q E∨spMoveL vs H Q E
theorem putL_same {vs:List V} {H H':Hp} {Q:VK} {E E':XK} (h:spPutL vs H Q E) (s:Same H H'):spPutL vs H' Q E':=by
  obtain ⟨S,M,L,R,ks,al,pd,t,n,b,x,tx,e,hM,hS,hd,hn,hlen,k1,k2⟩:=h
  exact ⟨S,M,L,R,ks,al,pd,t,n,b,x,tx,e,hM.same s,fun a ha=>(hS a ha).imp fun o ho=>s _ _ ho,s _ _ hd,hn,hlen,fun e z H2 s2=>k1 e z H2 (s.trans s2),fun z H2 kp=>k2 z H2 (Keep.trans (.of s) kp)⟩
theorem moveL_same {vs:List V} {H H':Hp} {Q:VK} {E E':XK} (h:spMoveL vs H Q E) (s:Same H H'):spMoveL vs H' Q E':=by
  obtain ⟨S,M,L,R,ks,al,pd,t,b,x,e,hM,hd,hlen,hnd,k1,k2⟩:=h
  exact ⟨S,M,L,R,ks,al,pd,t,b,x,e,hM.same s,s _ _ hd,hlen,hnd,fun e z H2 s2=>k1 e z H2 (s.trans s2),fun z q hq H2 kp=>k2 z q hq H2 (Keep.trans (.of s) kp)⟩
theorem do_in {vs:List V} {H:Hp} {Q:VK} {E:XK} (h:spDo vs H Q E):∃ (m pd:Addr) (k:Str) (ys:List V),vs=[.ref m,.ref pd]∧H pd=some (.tup (.str k :: ys))∧(k=WPUT∧spPutL vs H Q E∨k=WMOVE∧spMoveL vs H Q E):=by
  rcases h with h | h
  · have h0:=h
    obtain ⟨S,M,L,R,ks,al,pd,t,n,b,x,tx,e,hM,hS,hd,_⟩:=h
    exact ⟨_,pd,WPUT,_,e,hd,.inl ⟨rfl,h0⟩⟩
  · have h0:=h
    obtain ⟨S,M,L,R,ks,al,pd,t,b,x,e,hM,hd,_⟩:=h
    exact ⟨_,pd,WMOVE,_,e,hd,.inr ⟨rfl,h0⟩⟩
def doK (f g:Addr):List (Key × V):=[(Sum.inr "put",.ref f),(Sum.inr "move",.ref g)]
theorem do_ne:(Sum.inr "put" : Key)≠(Sum.inr "move" : Key):=by decide +kernel
theorem do_ns:Str.ofString "move" ≠ Str.ofString "put":=by decide +kernel
theorem do_merge (f g:Addr):mergeK [] (doK f g)=doK f g:=by
  unfold doK
  simp [mergeK,putK,do_ns,Ne.symm do_ns]
theorem v_put (f g:Addr):valV (doK f g) (Sum.inr "put" : Key)=some (V.ref f):=valV_pos rfl
theorem v_move (f g:Addr):valV (doK f g) (Sum.inr "move" : Key)=some (V.ref g):=(valV_neg do_ne).trans (valV_pos rfl)
section
variable {P:Program} {w:World} {K:PySem.W.Frag} {mg:Str→Option Value} {base:Heap}
theorem scMove:FnScope ["_law_model_here", "_law_deed_here", "_law_word", "_law_t", "_law_name", "_law_behind", "_law_side_here"] ["_law_model_here", "_law_deed_here"] (defScope sMove):=⟨rfl,rfl,rfl,by decide +kernel,rfl,by decide +kernel,by decide +kernel⟩
theorem c_move (h:Has K mg "_law_move" sMove ["_law_model_here", "_law_deed_here"]) (C_side:Cal P w K mg base "_law_side" 1 ["_law_model_here", "_law_name"] spSide) (C_bad_place:Cal P w K mg base "_law_bad_place" 2 ["_law_model_here", "_law_side_here", "_law_behind"] spBad) (C_put_in:Cal P w K mg base "_law_put_in" 1 ["_law_model_here", "_law_side_here", "_law_behind", "_law_name"] spPutIn):Cal P w K mg base "_law_move" 3 ["_law_model_here", "_law_deed_here"] spMoveL:=by
  refine h.mk' scMove (fun vs H Q E hs=>?_) (fun f cdv A outer s H vs Q E hr hs=>?_)
  · obtain ⟨S,M,L,R,ks,al,pd,t,b,x,rfl,_⟩:=hs
    rfl
  obtain ⟨S,M,L,R,ks,al,pd,t,b,x,rfl,hM,hd,hlen,hnd,k1,k2⟩:=hs
  refine ⟨_,(pss_cons (ps_asg (pv 1) (pg_tup (n:=4) rfl (pgs_cons (pg_name (i:=2) scMove.nd rfl (Or.inl rfl)) (pgs_cons (pg_name (i:=3) scMove.nd rfl (Or.inl rfl)) (pgs_cons (pg_name (i:=4) scMove.nd rfl (Or.inl rfl)) (pgs_cons (pg_name (i:=5) scMove.nd rfl (Or.inl rfl)) pgs_nil))))))
    (pss_cons (ps_set (i:=6) scMove.nd rfl (Or.inl rfl) (pe_cal C_side hr (by decide) rfl (pa_cons (pv 0) (pa_cons (pv 4) pa_nil))))
    (pss_cons (ps_if (pt_cmpR op_isN (pv 6) pe_non (nomark _))
      (pss_one (ps_ret pe_str))
      pss_nil)
    (pss_cons (ps_if (pt_cmpR op_ne (pe_cal C_bad_place hr (by decide) rfl (pa_cons (pv 0) (pa_cons (pv 6) (pa_cons (pv 5) pa_nil)))) pe_str (nomark _))
      (pss_one (ps_ret (pe_cal C_bad_place hr (by decide) rfl (pa_cons (pv 0) (pa_cons (pv 6) (pa_cons (pv 5) pa_nil))))))
      pss_nil)
    (pss_cons (ps_if (pt_cmpR op_eq (pv 4) (pv 5) (nomark _))
      (pss_one (ps_ret pe_str))
      pss_nil)
    (pss_cons (ps_expr (pe_bm PySem.F.plainAttrs_list PySem.F.slot_list_remove PySem.F.type_list_remove mt_removeS (pe_ix ix_list (pe_dget (hu_of hr) (pv 0) pe_str (fun _ _=>rfl)) (pv 6) (fun _ _=>rfl)) (pa_cons (pv 4) pa_nil)))
    (pss_cons (ps_expr (pe_cal C_put_in hr (by decide) rfl (pa_cons (pv 0) (pa_cons (pv 6) (pa_cons (pv 5) (pa_cons (pv 4) pa_nil))))))
    (pss_one (ps_ret pe_str))))))))),?_⟩
  refine ⟨_,rfl,pd,_,rfl,SqT.of hd,rfl,_,_,rfl,_,_,rfl,_,_,rfl,_,_,rfl,rfl,?_⟩
  refine ⟨_,rfl,_,rfl,S,M,L,R,ks,al,x,rfl,hM,fun H1 s1=>?_⟩
  by_cases hx:(partN (L++R) x).isSome=true
  case neg =>
    rw [sideV_none.mpr hx]
    exact ⟨_,rfl,rfl,_,rfl,iteT (k1 0 (by unfold moveE; rw [if_neg hx]) H1 s1)⟩
  have esv:sideV L R x=.int (sideP L x:Nat):=if_pos hx
  rw [esv]
  refine ⟨_,rfl,rfl,_,rfl,?_⟩
  refine ite2 (fun z=>by have:=of_decide_eq_true z; cases this) (fun _=>?_)
  have hxs:=mem_side hx
  have hn:=sideP_le L x
  have hmE:moveE L R x b=(placeE L R (sideP L x) b).or (if b=x then some 1 else none):=by unfold moveE; rw [if_pos hx]
  generalize sideP L x=n at *
  refine nxP (fun σ H'=>σ=[some (.ref M.m),some (.ref pd),some (.str WMOVE),some (.int t),some (mkT x),some (mkT b),some (.int (n:Nat))]∧Same H H'∧placeE L R n b=none) (fun N hN=>?_) ?_
  · refine ⟨_,rfl,_,rfl,_,rfl,S,M,L,R,ks,al,n,b,rfl,hM.same s1,fun H2 s2=>⟨rfl,_,rfl,?_⟩⟩
    have s12:=s1.trans s2
    refine ite2 (fun z=>?_) (fun z=>?_)
    · obtain ⟨e,he⟩:=Option.ne_none_iff_exists'.mp (err_ne.mp z)
      refine ⟨_,rfl,_,rfl,_,rfl,S,M,L,R,ks,al,n,b,rfl,hM.same s12,fun H3 s3=>?_⟩
      rw [he]
      exact k1 e (by rw [hmE,he]; rfl) H3 (s12.trans s3)
    · refine hN _ _ ⟨rfl,s12,?_⟩
      cases h:placeE L R n b with
      | none=>rfl
      | some e=>exact absurd (err_ne.mpr (by rw [h]; exact fun z=>(nomatch z))) z
  clear s1 H1
  rintro σ H2 ⟨rfl,s2,hp⟩
  refine ⟨_,rfl,_,rfl,rfl,_,rfl,?_⟩
  refine ite2 (fun z=>?_) (fun z=>?_)
  · have e:x=b:=by rw [ez_t] at z; exact of_decide_eq_true z
    exact k1 1 (by rw [hmE,hp,if_pos e.symm]; rfl) H2 s2
  have hbx:b≠x:=fun e=>z (by rw [ez_t]; exact decide_eq_true e.symm)
  have hE:moveE L R x b=none:=by rw [hmE,hp,if_neg hbx]; rfl
  obtain ⟨q,hq⟩:=Option.isSome_iff_exists.mp hx
  obtain ⟨hqm,hqx⟩:=partN_some hq
  have hM2:=hM.same s2
  obtain ⟨hj,e1,e2⟩:=find_lt hxs
  generalize ((sdP n L R).findIdx fun p=>decide (p.1=x))=j at hj e1 e2
  have hoe:=out_erase hj (nodup_sd hnd) e1
  have rn:=(row_at' hM2 hn).2
  obtain ⟨kt,et,hkl,hkt⟩:=hM2.t.ex
  obtain ⟨kw,ew,hwl,hkw⟩:=hM2.w.ex
  obtain ⟨⟨n1,n2,n3,n4,n5,n6,n7⟩,m1,m2,m3⟩:=hM.nes
  have q1:M.ln n≠M.dt:=lst_ne rn et
  have q2:M.ln n≠M.dw:=lst_ne rn ew
  have q3:M.ln n≠M.m:=lst_ne rn hM2.m
  have q4:M.lr≠M.ln n:=fun z=>by
    rcases ln_in M n with e | e
    · exact n2 (z.trans e)
    · exact n3 (z.trans e)
  have rn':=rn
  rw [nms_str] at rn'
  have hee:((((sdP n L R).map fun p=>(⟨p.1.toArray⟩:Str)).map V.str).eraseIdx j)=nmsOf (outP (sdP n L R) x):=by
    rw [← nms_str,hoe]
    unfold nmsOf
    rw [eraseM]
  refine ⟨_,rfl,M.m,_,rfl,g_rows hM2.m,_,rfl,M.lr,_,_,_,rfl,rfl,SqL.of hM2.lr,ln_at hn,.inl ⟨rfl,_,SqL.of rn'⟩,_,rfl,M.ln n,_,_,j,rfl,rfl,rn',?_,fun i z hi hz=>?_,?_⟩
  · rw [List.getElem?_map,ex_at hj]
    show some (⟨(sdP n L R)[j].1.toArray⟩:Str)=_
    rw [e1]
  · rw [List.getElem?_map,ex_at (show i < (sdP n L R).length by omega)] at hz
    rw [← Option.some.inj hz]
    intro y
    exact e2 i (by omega) hi (by injection y with y; exact Array.mk.inj y)
  rw [hee]
  have hol:(outP (sdP n L R) x).length+1=(sdP n L R).length:=by
    rw [hoe,List.length_eraseIdx,if_pos hj]
    omega
  have hsl:(sdP n L R).length≤200:=by
    unfold sdP
    rw [List.length_append] at hlen
    split <;> omega
  have hin:b=[]∨b∈(outP (sdP n L R) x).map (·.1):=(place_none hp).imp id fun ⟨z1,z2⟩=>by
    have:=mem_side z1
    rw [z2] at this
    obtain ⟨r,hr,e⟩:=List.mem_map.mp this
    exact List.mem_map.mpr ⟨r,List.mem_filter.mpr ⟨hr,decide_eq_true (by rw [e]; exact hbx)⟩,e⟩
  refine ⟨_,rfl,_,rfl,_,rfl,_,rfl,M,n,b,x,outP (sdP n L R) x,q,rfl,hn,by rw [upd_ne (Ne.symm q3)]; exact hM2.m,by rw [upd_ne q4]; exact hM2.lr,upd_same,by omega,hin,hqx,?_⟩
  rw [upd_upd]
  have kp:∀ (a:Addr) (o:HO),H2 a=some o→a≠M.ln n→(upd H2 (M.ln n) (.lst (nmsOf (insP (outP (sdP n L R) x) b q)))) a=some o:=fun a o h h1=>by
    rw [upd_ne h1]
    exact h
  have hsub:∀ p∈(withSide n L R (insP (outP (sdP n L R) x) b q)).1++(withSide n L R (insP (outP (sdP n L R) x) b q)).2,p∈L++R:=fun p hp'=>by
    rcases mem_ws hp' with h | h
    · rcases mem_ins h with h | h
      · rw [h]
        exact hqm
      · exact mem_sd (List.mem_filter.mp h).1
    · exact h
  have hlw:(L++R).length=((withSide n L R (insP (outP (sdP n L R) x) b q)).1++(withSide n L R (insP (outP (sdP n L R) x) b q)).2).length:=by
    have h2:=len_ws L R (insP (outP (sdP n L R) x) b q) n
    have h3:=len_ins (outP (sdP n L R) x) b q
    omega
  refine k2 hE q hq _ (fun a o h hna=>?_) (hM2.chg hn (fun a vs h hne=>kp a _ h hne) (kp _ _ hM2.m (Ne.symm q3)) upd_same ⟨kt,kp _ _ et (Ne.symm q1),by omega,fun p hp'=>hkt p (hsub p hp')⟩ ⟨kw,kp _ _ ew (Ne.symm q2),by omega,fun p hp'=>?_⟩)
  · have hne:∀ {c:Addr},c∈[M.l0,M.l1,M.dt,M.dw]→a≠c:=fun hc z=>hna (by rw [z]; exact hc)
    refine kp a o (s2 _ _ h) ?_
    rcases ln_in M n with e | e <;> rw [e] <;> exact hne (by simp)
  · obtain ⟨l',w1,w2,w3⟩:=hkw p (hsub p hp')
    refine ⟨l',w1,w2,kp _ _ w3 fun z=>?_⟩
    rcases ln_in M n with e | e
    · exact w2 (by rw [z,e]; exact .head _)
    · exact w2 (by rw [z,e]; exact .tail _ (.head _))
theorem scDo:FnScope ["_law_model_here", "_law_deed_here", "_law_doers", "_law_doer"] ["_law_model_here", "_law_deed_here"] (defScope sDo):=⟨rfl,rfl,rfl,by decide +kernel,rfl,by decide +kernel,by decide +kernel⟩
theorem c_do (h:Has K mg "_law_do" sDo ["_law_model_here", "_law_deed_here"]) {f_move:Addr} (qf_move:mg "_law_move" = some (.ref f_move)) (Fn_move:Fn1 P w K mg base f_move 3 ["_law_model_here", "_law_deed_here"] spMoveL) {f_put:Addr} (qf_put:mg "_law_put" = some (.ref f_put)) (Fn_put:Fn1 P w K mg base f_put 3 ["_law_model_here", "_law_deed_here"] spPutL):Cal P w K mg base "_law_do" 4 ["_law_model_here", "_law_deed_here"] spDo:=by
  refine h.mk' scDo (fun vs H Q E hs=>?_) (fun f cdv A outer s H vs Q E hr hs=>?_)
  · obtain ⟨m,pd,k,ys,rfl,_⟩:=do_in hs
    rfl
  obtain ⟨m,pd,kw,ys,rfl,hd,hc⟩:=do_in hs
  refine ⟨_,(pss_cons (ps_set (i:=2) scDo.nd rfl (Or.inl rfl) (pe_disp (pps_cons pe_str (pe_glob (v:=.ref f_put) rfl qf_put rfl) (pps_cons pe_str (pe_glob (v:=.ref f_move) rfl qf_move rfl) pps_nil)) rfl rfl (by simp) (by decide +kernel)))
    (pss_cons (ps_set (i:=3) scDo.nd rfl (Or.inl rfl) (pe_dget (hu_of hr) (pv 2) (pe_ix ix_tup (pv 1) pe_int (fun _ _=>rfl)) (fun _ _=>rfl)))
    (pss_one (ps_ret (pe_calV hr (pv 3) passesN (pa_cons (pv 0) (pa_cons (pv 1) pa_nil))))))),?_⟩
  refine fun d hnew=>⟨upd_same,doK f_put f_move,rfl,(by show 2≤15; decide),?_⟩
  rw [do_merge,upd_upd]
  have s1:=same_new hnew (.dK (doK f_put f_move))
  have e1:(upd H d (.dK (doK f_put f_move))) d=some (.dK (doK f_put f_move)):=upd_same
  generalize upd H d (.dK (doK f_put f_move))=H1 at s1 e1
  rcases hc with ⟨rfl,hc⟩ | ⟨rfl,hc⟩
  · have hg:DGet H1 d (.str WPUT) (some (.ref f_put)):=by
      rw [← v_put f_put f_move]
      exact DGet.k (k:=(Sum.inr "put" : Key)) e1
    refine ⟨_,rfl,_,rfl,pd,_,_,_,rfl,rfl,SqT.of (s1 _ _ hd),atI_zero _ _,d,_,rfl,hg,?_⟩
    exact ⟨f_put,_,_,_,rfl,Fn_put,by decide,_,rfl,_,rfl,putL_same (E':=fun _ _ _=>False) hc s1⟩
  · have hg:DGet H1 d (.str WMOVE) (some (.ref f_move)):=by
      rw [← v_move f_put f_move]
      exact DGet.k (k:=(Sum.inr "move" : Key)) e1
    refine ⟨_,rfl,_,rfl,pd,_,_,_,rfl,rfl,SqT.of (s1 _ _ hd),atI_zero _ _,d,_,rfl,hg,?_⟩
    exact ⟨f_move,_,_,_,rfl,Fn_move,by decide,_,rfl,_,rfl,moveL_same (E':=fun _ _ _=>False) hc s1⟩
end
theorem boot_ValueError:bootBuiltins "ValueError" = some (.type "ValueError"):=by decide +kernel
def a7 (a b c d e f g:Addr):Nat→Addr
  | 0=>a
  | 1=>b
  | 2=>c
  | 3=>d
  | 4=>e
  | 5=>f
  | _=>g
structure KB (K:PySem.W.Frag) (c te:Addr):Prop where
  ek:ExcK K c
  un:PySem.W.subIn K (.ref c) (.ref te)=some true
  ii:PySem.W.isIn K (.ref c) c=true
  iv:PySem.W.subIn K (.ref c) (.type "ValueError")=some true
structure KC (K:PySem.W.Frag) (te:Addr) (A:Nat→Addr) (e:Nat):Prop where
  ek:ExcK K (A e)
  un:PySem.W.subIn K (.ref (A e)) (.ref te)=some true
  ii:PySem.W.isIn K (.ref (A e)) (A e)=true
  iv:PySem.W.subIn K (.ref (A e)) (.type "ValueError")=some true
  no:∀ i,i < 7→i≠e→PySem.W.kin_not K (A e) (A i)=true
theorem KC.isx {K:PySem.W.Frag} {te:Addr} {A:Nat→Addr} {e:Nat} (h:KC K te A e) {i:Nat} (hi:i < 7):IsX K (A e) (.ref (A i)) (decide (i=e)):=by
  by_cases z:i=e
  · rw [decide_eq_true z,z]
    exact .inl ⟨_,rfl,.inl ⟨rfl,h.ii⟩⟩
  · rw [decide_eq_false z]
    exact .inl ⟨_,rfl,.inr ⟨rfl,h.ek,h.no i hi z⟩⟩
def mks (e:Nat):List V:=[.bl (decide (0=e)),.bl (decide (1=e)),.bl (decide (2=e)),.bl (decide (3=e)),.bl (decide (4=e)),.bl (decide (5=e)),.bl (decide (6=e))]
def wds:List V:=[.str "NoPart",.str "NoPlace",.str "Twice",.str "Linked",.str "Apart",.str "NoDeed",.str "NoText"]
theorem mks_ok {e:Nat} (h:e≤2):(mks e).all flatV=true∧(mks e).countP (fun z=>eqV z (.bl true))=1∧(mks e)[e]?=some (.bl true)∧(∀ i z,i < e→(mks e)[i]?=some z→eqV z (.bl true)=false)∧atI wds (e:Nat)=some (.str (errS (some e))):=by
  match e,h with
  | 0,_=>exact ⟨rfl,rfl,rfl,fun i z hi=>by omega,atI_nat (xs:=wds) (j:=0) rfl⟩
  | 1,_=>exact ⟨rfl,rfl,rfl,fun i z hi hz=>by
      obtain rfl:i=0:=by omega
      cases hz
      rfl,atI_nat (xs:=wds) (j:=1) rfl⟩
  | 2,_=>exact ⟨rfl,rfl,rfl,fun i z hi hz=>by
      obtain rfl | rfl:i=0∨i=1:=by omega
      · cases hz
        rfl
      · cases hz
        rfl,atI_nat (xs:=wds) (j:=2) rfl⟩
def spTried (K:PySem.W.Frag) (te:Addr) (A:Nat→Addr) (C:Nat→Addr):Sp:=fun vs H Q _=>∃ (v:V) (pd:Addr) (o:Option Nat) (B:D),vs=[v,.ref pd]∧(∀ e,o=some e→e≤2∧KC K te A e∧C e=A e) ∧
  (∀ Q' E',(o=none→∀ (u:V) (H':Hp),Same H H'→Den H' u B→Q' u H')→(∀ e,o=some e→Thrown (C e) H E')→spDone C vs H Q' E') ∧
  (o=none→∀ (t:Addr) (u:V) (H':Hp),Same H H'→H' t=some (.tup [u,.str (errS none)])→Den H' u B→Q (.ref t) H')∧(∀ e,o=some e→∀ (t:Addr) (H':Hp),Same H H'→H' t=some (.tup [.non,.str (errS (some e))])→Q (.ref t) H')
section
variable {P:Program} {w:World} {K:PySem.W.Frag} {mg:Str→Option Value} {base:Heap} {a_NoPart a_TwainError a_NoPlace a_Twice a_Linked a_Apart a_NoDeed a_NoText:Addr}
theorem scTried:FnScope ["_law_book_here", "_law_deed_here", "_law_caught", "_law_made", "e", "_law_words", "_law_marks"] ["_law_book_here", "_law_deed_here"] (defScope sTried):=⟨rfl,rfl,rfl,by decide +kernel,rfl,by decide +kernel,by decide +kernel⟩
theorem c_tried (h:Has K mg "_law_tried" sTried ["_law_book_here", "_law_deed_here"]) (q_TwainError:mg "TwainError" = some (.ref a_TwainError)) (x_TwainError:PySem.W.excIn K a_TwainError vBm "ValueError.__new__" = true) (q_Twice:mg "Twice" = some (.ref a_Twice)) (q_NoPlace:mg "NoPlace" = some (.ref a_NoPlace)) (q_NoPart:mg "NoPart" = some (.ref a_NoPart)) (q_Apart:mg "Apart" = some (.ref a_Apart)) (q_Linked:mg "Linked" = some (.ref a_Linked)) (q_NoText:mg "NoText" = some (.ref a_NoText)) (q_NoDeed:mg "NoDeed" = some (.ref a_NoDeed)) (C_done:Cal1 P w K mg base "done" 5 ["book", "deed"] (spDone (c3 a_NoPart a_NoPlace a_Twice))) (m_isinstance:mg "isinstance" = none) (m_ValueError:mg "ValueError" = none):Cal P w K mg base "_law_tried" 6 ["_law_book_here", "_law_deed_here"] (spTried K a_TwainError (a7 a_NoPart a_NoPlace a_Twice a_Linked a_Apart a_NoDeed a_NoText) (c3 a_NoPart a_NoPlace a_Twice)):=by
  refine h.mk' scTried (fun vs H Q E hs=>?_) (fun f cdv A outer s H vs Q E hr hs=>?_)
  · obtain ⟨v,pd,o,B,rfl,_⟩:=hs
    rfl
  obtain ⟨v,pd,o,B,rfl,hc,hsp,k1,k2⟩:=hs
  refine ⟨_,(pss_cons (ps_set (i:=2) scTried.nd rfl (Or.inl rfl) pe_non)
    (pss_cons (ps_set (i:=3) scTried.nd rfl (Or.inl rfl) pe_non)
    (pss_cons (ps_try_as (i:=4) (fun pins R=>(pss_one (ps_set (i:=3) scTried.nd rfl (Or.inl rfl) (pe_cal1T C_done hr (by decide) rfl (pa_cons (pv 0) (pa_cons (pv 1) pa_nil)))))) (fun e=>(pss_one (ps_set (i:=2) scTried.nd rfl (Or.inl rfl) (pv 4)))) rfl q_TwainError x_TwainError scTried.nd rfl rfl rfl rfl)
    (pss_cons (ps_if (pt_cmpR op_isN (pv 2) pe_non (nomark _))
      (pss_one (ps_ret (pe_tup (pa_cons (pv 3) (pa_cons pe_str pa_nil)))))
      pss_nil)
    (pss_cons (ps_set (i:=5) scTried.nd rfl (Or.inl rfl) (pe_lst (pa_cons pe_str (pa_cons pe_str (pa_cons pe_str (pa_cons pe_str (pa_cons pe_str (pa_cons pe_str (pa_cons pe_str pa_nil)))))))))
    (pss_cons (ps_set (i:=6) scTried.nd rfl (Or.inl rfl) (pe_lst (pa_cons (pe_callB call_isinstX rfl m_isinstance boot_isinstance (pa_cons (pv 2) (pa_cons (pe_glob (v:=.ref a_NoPart) rfl q_NoPart rfl) pa_nil))) (pa_cons (pe_callB call_isinstX rfl m_isinstance boot_isinstance (pa_cons (pv 2) (pa_cons (pe_glob (v:=.ref a_NoPlace) rfl q_NoPlace rfl) pa_nil))) (pa_cons (pe_callB call_isinstX rfl m_isinstance boot_isinstance (pa_cons (pv 2) (pa_cons (pe_glob (v:=.ref a_Twice) rfl q_Twice rfl) pa_nil))) pa_nil)))))
    (pss_cons (ps_set (i:=6) scTried.nd rfl (Or.inl rfl) (pe_op op_cat (pv 6) (pe_lst (pa_cons (pe_callB call_isinstX rfl m_isinstance boot_isinstance (pa_cons (pv 2) (pa_cons (pe_glob (v:=.ref a_Linked) rfl q_Linked rfl) pa_nil))) (pa_cons (pe_callB call_isinstX rfl m_isinstance boot_isinstance (pa_cons (pv 2) (pa_cons (pe_glob (v:=.ref a_Apart) rfl q_Apart rfl) pa_nil))) pa_nil)))))
    (pss_cons (ps_set (i:=6) scTried.nd rfl (Or.inl rfl) (pe_op op_cat (pv 6) (pe_lst (pa_cons (pe_callB call_isinstX rfl m_isinstance boot_isinstance (pa_cons (pv 2) (pa_cons (pe_glob (v:=.ref a_NoDeed) rfl q_NoDeed rfl) pa_nil))) (pa_cons (pe_callB call_isinstX rfl m_isinstance boot_isinstance (pa_cons (pv 2) (pa_cons (pe_glob (v:=.ref a_NoText) rfl q_NoText rfl) pa_nil))) pa_nil)))))
    (pss_cons (ps_if (PW.pt (pw_or (pt_cmpR op_ne (pe_bm PySem.F.plainAttrs_list PySem.F.slot_list_count PySem.F.type_list_count mt_countL (pv 6) (pa_cons pe_bl pa_nil)) pe_int (nomark _)) (pw_or1 (pt_not (pt_val (pe_callB call_isinstX rfl m_isinstance boot_isinstance (pa_cons (pv 2) (pa_cons (pe_bltn (v:=.ty "ValueError") rfl m_ValueError boot_ValueError rfl) pa_nil))))))))
      (pss_one (ps_ret (pe_tup (pa_cons pe_non (pa_cons pe_str pa_nil)))))
      pss_nil)
    (pss_one (ps_ret (pe_tup (pa_cons pe_non (pa_cons (pe_ix ix_list (pv 5) (pe_bm PySem.F.plainAttrs_list PySem.F.slot_list_index PySem.F.type_list_index mt_indexL (pv 6) (pa_cons pe_bl pa_nil)) (fun _ _=>rfl)) pa_nil)))))))))))))),?_⟩
  refine ⟨_,rfl,_,rfl,hsp _ _ (fun ho u H1 s1 d1=>?_) (fun e ho=>thrown_try fun ex T H1 s1 hex hx=>?_)⟩
  · refine ⟨_,rfl,rfl,_,rfl,iteT ⟨_,rfl,smn 2,fun t ht=>?_⟩⟩
    have s2:=same_new ht (.tup [u,.str (errS none)])
    exact k1 ho t u _ (s1.trans s2) upd_same (d1.same s2)
  obtain ⟨he2,kc,hce⟩:=hc e ho
  rw [hce] at hx ⊢
  refine ⟨⟨_,rfl,kc.un⟩,fun T' hT' hn=>?_⟩
  have sx:Same H (xH H1 T' ex (.ref (a7 a_NoPart a_NoPlace a_Twice a_Linked a_Apart a_NoDeed a_NoText e))):=same_xH s1 hex hn
  have ee:xH H1 T' ex (.ref (a7 a_NoPart a_NoPlace a_Twice a_Linked a_Apart a_NoDeed a_NoText e)) ex=some (ExcO (.ref (a7 a_NoPart a_NoPlace a_Twice a_Linked a_Apart a_NoDeed a_NoText e)) T' ex):=upd_same
  generalize xH H1 T' ex (.ref (a7 a_NoPart a_NoPlace a_Twice a_Linked a_Apart a_NoDeed a_NoText e))=H2 at sx ee
  refine ⟨_,rfl,_,rfl,rfl,_,rfl,?_⟩
  refine ite2 (fun z=>by have:=of_decide_eq_true z; cases this) (fun _=>?_)
  refine ⟨smn 7,fun lw hlw=>?_⟩
  have w0:=same_new hlw (.lst wds)
  have ew:(upd H2 lw (.lst wds)) lw=some (.lst wds):=upd_same
  have ex0:=w0 _ _ ee
  generalize hH3:upd H2 lw (.lst wds)=H3 at w0 ew ex0
  have hH3:upd H2 lw (.lst [.str "NoPart",.str "NoPlace",.str "Twice",.str "Linked",.str "Apart",.str "NoDeed",.str "NoText"])=H3:=hH3
  rw [hH3]
  obtain ⟨m1,m2,m3,m4,m5⟩:=mks_ok he2
  refine ⟨_,rfl,ex,T',_,_,_,rfl,ex0,kc.isx (i:=0) (by omega),_,rfl,ex,T',_,_,_,rfl,ex0,kc.isx (i:=1) (by omega),_,rfl,ex,T',_,_,_,rfl,ex0,kc.isx (i:=2) (by omega),smn 3,fun l1 hl1=>?_⟩
  have w1:=same_new hl1 (.lst [.bl (decide (0=e)),.bl (decide (1=e)),.bl (decide (2=e))])
  have e1:(upd H3 l1 (.lst [.bl (decide (0=e)),.bl (decide (1=e)),.bl (decide (2=e))])) l1=some (.lst [.bl (decide (0=e)),.bl (decide (1=e)),.bl (decide (2=e))]):=upd_same
  generalize upd H3 l1 (.lst [.bl (decide (0=e)),.bl (decide (1=e)),.bl (decide (2=e))])=H4 at w1 e1 ⊢
  have ex1:=w1 _ _ ex0
  refine ⟨_,rfl,_,rfl,ex,T',_,_,_,rfl,ex1,kc.isx (i:=3) (by omega),_,rfl,ex,T',_,_,_,rfl,ex1,kc.isx (i:=4) (by omega),smn 2,fun l2 hl2=>?_⟩
  have w2:=same_new hl2 (.lst [.bl (decide (3=e)),.bl (decide (4=e))])
  have e2:(upd H4 l2 (.lst [.bl (decide (3=e)),.bl (decide (4=e))])) l2=some (.lst [.bl (decide (3=e)),.bl (decide (4=e))]):=upd_same
  generalize upd H4 l2 (.lst [.bl (decide (3=e)),.bl (decide (4=e))])=H5 at w2 e2 ⊢
  refine ⟨l1,l2,_,_,rfl,rfl,w2 _ _ e1,e2,smn 5,fun l3 hl3=>?_⟩
  have w3:=same_new hl3 (.lst ([.bl (decide (0=e)),.bl (decide (1=e)),.bl (decide (2=e))]++[.bl (decide (3=e)),.bl (decide (4=e))]))
  have e3:(upd H5 l3 (.lst ([.bl (decide (0=e)),.bl (decide (1=e)),.bl (decide (2=e))]++[.bl (decide (3=e)),.bl (decide (4=e))]))) l3=some (.lst ([.bl (decide (0=e)),.bl (decide (1=e)),.bl (decide (2=e))]++[.bl (decide (3=e)),.bl (decide (4=e))])):=upd_same
  generalize upd H5 l3 (.lst ([.bl (decide (0=e)),.bl (decide (1=e)),.bl (decide (2=e))]++[.bl (decide (3=e)),.bl (decide (4=e))]))=H6 at w3 e3 ⊢
  have ex3:=w3 _ _ (w2 _ _ ex1)
  refine ⟨_,rfl,_,rfl,ex,T',_,_,_,rfl,ex3,kc.isx (i:=5) (by omega),_,rfl,ex,T',_,_,_,rfl,ex3,kc.isx (i:=6) (by omega),smn 2,fun l4 hl4=>?_⟩
  have w4:=same_new hl4 (.lst [.bl (decide (5=e)),.bl (decide (6=e))])
  have e4:(upd H6 l4 (.lst [.bl (decide (5=e)),.bl (decide (6=e))])) l4=some (.lst [.bl (decide (5=e)),.bl (decide (6=e))]):=upd_same
  generalize upd H6 l4 (.lst [.bl (decide (5=e)),.bl (decide (6=e))])=H7 at w4 e4 ⊢
  refine ⟨l3,l4,_,_,rfl,rfl,w4 _ _ e3,e4,smn 7,fun l5 hl5=>?_⟩
  have w5:=same_new hl5 (.lst (mks e))
  have e5:(upd H7 l5 (.lst (mks e))) l5=some (.lst (mks e)):=upd_same
  generalize hH8:upd H7 l5 (.lst (mks e))=H8 at w5 e5
  have hH8:upd H7 l5 (.lst (([.bl (decide (0=e)),.bl (decide (1=e)),.bl (decide (2=e))]++[.bl (decide (3=e)),.bl (decide (4=e))])++[.bl (decide (5=e)),.bl (decide (6=e))]))=H8:=hH8
  rw [hH8]
  have s38:=w1.trans (w2.trans (w3.trans (w4.trans w5)))
  have ex5:=s38 _ _ ex0
  have ew5:=s38 _ _ ew
  refine ⟨_,rfl,.inl ⟨rfl,_,SqL.of e5⟩,l5,_,.bl true,rfl,rfl,e5,rfl,m1,?_⟩
  rw [m2]
  refine ⟨rfl,_,rfl,?_⟩
  refine ite2 (fun z=>absurd z (by decide)) (fun _=>?_)
  refine ⟨_,rfl,ex,T',_,_,_,rfl,ex5,.inr ⟨_,rfl,rfl,by kernel_rfl,kc.iv⟩,_,rfl,?_⟩
  refine ite2 (fun z=>absurd z (by decide)) (fun _=>?_)
  refine ⟨_,rfl,_,rfl,.inl ⟨rfl,_,SqL.of e5⟩,l5,_,.bl true,.bl true,e,rfl,rfl,e5,rfl,m1,m3,rfl,m4,lw,_,_,_,rfl,rfl,SqL.of ew5,m5,smn 2,fun t ht=>?_⟩
  have s9:=same_new ht (.tup [.non,.str (errS (some e))])
  exact k2 e ho t _ ((sx.trans (w0.trans s38)).trans s9) upd_same
end
def Pl:Nat→D→Prop
  | _,.int _=>True
  | _,.str _=>True
  | n+1,.tup ds=>ds.length≤1000∧∀ d∈ds,Pl n d
  | _,_=>False
theorem all_rep:∀ n:Nat,(List.replicate n true).all id=true
  | 0=>rfl
  | n+1=>by rw [List.replicate_succ,List.all_cons,all_rep n]; rfl
def spKinds:Nat→Sp
  | 0=>fun _ _ _ _=>False
  | n+1=>fun vs H Q _=>∃ (v:V) (d:D),vs=[v]∧Den H v d∧Pl n d∧∀ H',Same H H'→Q (.bl true) H'
section
variable {P:Program} {w:World} {K:PySem.W.Frag} {mg:Str→Option Value} {base:Heap}
theorem scKinds:FnScope ["_law_thing"] ["_law_thing"] (defScope sKinds):=⟨rfl,rfl,rfl,by decide +kernel,rfl,by decide +kernel,by decide +kernel⟩
theorem c_kinds (h:Has K mg "_law_kinds" sKinds ["_law_thing"]) (m_isinstance:mg "isinstance" = none) (m_tuple:mg "tuple" = none) (m_all:mg "all" = none) (m_bool:mg "bool" = none) (m_int:mg "int" = none) (m_str:mg "str" = none) :
    ∀ n:Nat,Cal P w K mg base "_law_kinds" n ["_law_thing"] (spKinds n)
  | 0=>h.never fun _ _ _ _ z=>z
  | n+1=>by
    have C_kinds:=c_kinds h m_isinstance m_tuple m_all m_bool m_int m_str n
    refine h.mk' scKinds (fun vs H Q E hs=>?_) (fun f cdv A outer s H vs Q E hr hs=>?_)
    · obtain ⟨v,d,rfl,_⟩:=hs
      rfl
    obtain ⟨v,d,rfl,hv,hsh,k⟩:=hs
    refine ⟨_,(pss_cons (ps_if (pt_val (pe_callB call_isinst rfl m_isinstance boot_isinstance (pa_cons (pv 0) (pa_cons (pe_bltn (v:=.ty "tuple") rfl m_tuple boot_tuple rfl) pa_nil))))
      (pss_one (ps_ret (pe_callB (call_allB rfl) rfl m_all boot_all (pa_cons (pe_compL ["_law_thing"] (defScope sKinds) ["_law_one"] [none] rfl rfl rfl (pi_tup (pv 0)) rfl (by decide +kernel) (by decide +kernel) (by decide +kernel) (by decide +kernel) (hg:=fun cl C s H ex pn E=>(pg_name (i:=0) (by decide +kernel:(["_law_one"]:List Str).Nodup) rfl (Or.inl rfl))) (ht:=fun cl C s H ex pn E=>pifs_nil) (he:=fun cl C s H ex pn E=>(pe_cal C_kinds hr (Nat.le_refl _) rfl (pa_cons (pv 0) pa_nil)))) pa_nil))))
      pss_nil)
    (pss_one (ps_ret (pe_or (pe_callB call_isinst rfl m_isinstance boot_isinstance (pa_cons (pv 0) (pa_cons (pe_bltn (v:=.ty "str") rfl m_str boot_str rfl) pa_nil))) (pe_one (pe_and (pe_callB call_isinst rfl m_isinstance boot_isinstance (pa_cons (pv 0) (pa_cons (pe_bltn (v:=.ty "int") rfl m_int boot_int rfl) pa_nil))) (pe_one (pe_not (pe_callB call_isinst rfl m_isinstance boot_isinstance (pa_cons (pv 0) (pa_cons (pe_bltn (v:=.ty "bool") rfl m_bool boot_bool rfl) pa_nil))))))))))),?_⟩
    cases d with
    | non=>cases n <;> exact hsh.elim
    | bl b=>cases n <;> exact hsh.elim
    | int i =>
      have e1:v=.int i:=hv
      subst e1
      refine ⟨_,rfl,_,_,_,false,rfl,.int _,kit_int_tuple K,_,rfl,iteF ?_⟩
      refine ⟨_,rfl,_,_,_,false,rfl,.int _,kit_int_str K,?_⟩
      refine ⟨_,rfl,iteF ⟨_,rfl,_,_,_,true,rfl,.int _,kit_int_int K,_,rfl,iteT ⟨_,rfl,_,_,_,false,rfl,.int _,kit_int_bool K,?_⟩⟩⟩
      exact ⟨_,rfl,k H (Same.refl _)⟩
    | str x =>
      have e1:v=.str x:=hv
      subst e1
      refine ⟨_,rfl,_,_,_,false,rfl,.str _,kit_str_tuple K,_,rfl,iteF ?_⟩
      refine ⟨_,rfl,_,_,_,true,rfl,.str _,kit_str_str K,?_⟩
      exact ⟨_,rfl,iteT (k H (Same.refl _))⟩
    | tup ds =>
      obtain ⟨p,vs,rfl,hp,hd1⟩:=den_tup hv
      cases n with
      | zero=>exact hsh.elim
      | succ m =>
      obtain ⟨hlen,hin⟩:=hsh
      have l1:=hd1.len
      refine ⟨_,rfl,_,_,_,true,rfl,.tup hp,kit_tuple_tuple K,_,rfl,iteT ?_⟩
      refine ⟨_,rfl,p,rfl,⟨_,SqT.of hp⟩,fun l hl=>?_⟩
      refine comp_byH (J:=Itt K p) (l:=l) ds.length (fun i σ' H'=>∃ v0:Option V,σ'=[v0]∧Same H H'∧H' l=some (.lst ((List.replicate i true).map V.bl))) ⟨none,rfl,same_new hl _,upd_same⟩ ?_ ?_
      · rintro σ' H' ⟨v0,rfl,hs,hl'⟩
        refine ⟨⟨_,SqT.of (hs _ _ hp),by rw [l1]; exact Nat.le_refl _⟩,l,List.replicate ds.length true,rfl,SqL.of hl',?_⟩
        rw [all_rep]
        exact k H' hs
      · rintro i σ' H' hi ⟨v0,rfl,hs,hl'⟩
        have hx1:vs[i]?=some vs[i]:=List.getElem?_eq_getElem (by omega)
        refine ⟨⟨_,_,SqT.of (hs _ _ hp),hx1⟩,?_⟩
        rintro N hN y H'' ⟨rfl,h1⟩
        have e1:y=vs[i]:=Option.some.inj ((h1 _ (SqT.of (hs _ _ hp))).symm.trans hx1)
        obtain ⟨d1,g1,b1⟩:=hd1.at_ hx1
        rw [← e1] at b1
        refine gN (yesT (iteT ⟨_,rfl,_,d1,rfl,b1.same hs,hin d1 (List.mem_of_getElem? g1),fun H3 s3=>?_⟩))
        have hl3:=s3 _ _ hl'
        refine ⟨_,hl3,by rw [List.length_map,List.length_replicate]; exact small1000 (by omega),hN _ _ ⟨_,rfl,same_updN (hs.trans s3) hl,?_⟩⟩
        rw [upd_same,List.replicate_succ',List.map_append]
        rfl
end
def spPick:Sp:=fun vs H Q _=>∃ (d lo l1 l2:Addr) (xs ys:Nms),vs=[.ref d,.ref l1,.ref l2]∧PotAt d lo H∧H l1=some (.lst (xs.map mkT))∧H l2=some (.lst (ys.map mkT))∧l1≠lo∧l2≠lo∧ys≠[]∧xs.length≤900∧ys.length≤900 ∧
  ∀ (z:List Nat) (H':Hp),z∈xs++ys→PotAt d lo H'→Old d lo H H'→Q (mkT z) H'
theorem lst_ned {d lo l:Addr} {H:Hp} {vs:List V} (hp:PotAt d lo H) (h:H l=some (.lst vs)):l≠d:=by
  obtain ⟨cs,a,b,c,e1,e2,_⟩:=hp
  exact lst_ne h e1
section
variable {P:Program} {w:World} {K:PySem.W.Frag} {mg:Str→Option Value} {base:Heap}
theorem scPick:FnScope ["_law_pot_here", "_law_some_here", "_law_others"] ["_law_pot_here", "_law_some_here", "_law_others"] (defScope sPick):=⟨rfl,rfl,rfl,by decide +kernel,rfl,by decide +kernel,by decide +kernel⟩
theorem c_pick (h:Has K mg "_law_pick" sPick ["_law_pot_here", "_law_some_here", "_law_others"]) (C_next:Cal P w K mg base "_law_next" 1 ["_law_pot_here", "_law_many"] spNext) (m_len:mg "len" = none):Cal P w K mg base "_law_pick" 2 ["_law_pot_here", "_law_some_here", "_law_others"] spPick:=by
  refine h.mk' scPick (fun vs H Q E hs=>?_) (fun f cdv A outer s H vs Q E hr hs=>?_)
  · obtain ⟨d,lo,l1,l2,xs,ys,rfl,_⟩:=hs
    rfl
  obtain ⟨d,lo,l1,l2,xs,ys,rfl,hp,h1,h2,n1,n2,hy,hxl,hyl,k⟩:=hs
  refine ⟨_,(pss_cons (ps_if (PW.pt (pw_or (pt_cmpR (op_eqE hr.units0) (pv 1) (pe_lst pa_nil) (nomark _)) (pw_or1 (pt_cmpR op_eq (pe_cal C_next hr (by decide) rfl (pa_cons (pv 0) (pa_cons pe_int pa_nil))) pe_int (nomark _)))))
      (pss_one (ps_set (i:=1) scPick.nd rfl (Or.inl rfl) (pv 2)))
      pss_nil)
    (pss_one (ps_ret (pe_ix ix_list (pv 1) (pe_cal C_next hr (by decide) rfl (pa_cons (pv 0) (pa_cons (pe_callB call_len_seq rfl m_len PySem.boot_len (pa_cons (pv 1) pa_nil)) pa_nil))) (fun _ _=>rfl))))),?_⟩
  refine seqP (fun σ H'=>∃ (l:Addr) (zs:Nms),σ=[some (.ref d),some (.ref l),some (.ref l2)]∧PotAt d lo H'∧Old d lo H H'∧H' l=some (.lst (zs.map mkT))∧l≠lo∧zs≠[]∧zs.length≤900∧∀ z∈zs,z∈xs++ys) (fun N hN=>?_) ?_
  · refine ⟨_,rfl,smn 0,fun le hle=>?_⟩
    have s1:=same_new hle (.lst [])
    have e1:(upd H le (.lst [])) le=some (.lst []):=upd_same
    generalize upd H le (.lst [])=H1 at s1 e1 ⊢
    have oth:∀ (H':Hp),PotAt d lo H'→Old d lo H H'→N [some (.ref d),some (.ref l2),some (.ref l2)] H':=fun H' p o=>hN _ _ ⟨l2,ys,rfl,p,o,o _ _ h2 (lst_ned hp h2) n2,n2,hy,hyl,fun z hz=>List.mem_append_right _ hz⟩
    refine ⟨l1,le,_,rfl,rfl,s1 _ _ h1,e1,_,rfl,?_⟩
    refine ite2 (fun z=>?_) (fun z=>?_)
    · exact ⟨_,rfl,oth H1 (hp.same s1) (.of s1)⟩
    · have hx:xs≠[]:=fun e=>z (by rw [e]; rfl)
      refine ⟨_,rfl,d,lo,10,rfl,hp.same s1,by decide,by decide,fun r H2 r0 r1 p2 o2=>?_⟩
      have o02:Old d lo H H2:=Old.trans (.of s1) o2
      refine ⟨rfl,_,rfl,?_⟩
      refine ite2 (fun z=>?_) (fun z=>?_)
      · exact ⟨_,rfl,oth H2 p2 o02⟩
      · exact hN _ _ ⟨l1,xs,rfl,p2,o02,o02 _ _ h1 (lst_ned hp h1) n1,n1,hx,hxl,fun z hz=>List.mem_append_left _ hz⟩
  rintro σ H1 ⟨l,zs,rfl,p1,o1,e1,nl,hz,hzl,hin⟩
  have hpos:=List.length_pos_iff.mpr hz
  refine ⟨_,rfl,_,rfl,_,rfl,l,_,rfl,.inl (SqL.of e1),d,lo,_,rfl,p1,by rw [List.length_map]; omega,by rw [List.length_map]; omega,fun r H2 r0 r1 p2 o2=>?_⟩
  rw [List.length_map] at r1
  obtain ⟨j,rfl⟩:=Int.eq_ofNat_of_zero_le r0
  have hj:j < zs.length:=by omega
  have e2:=o2 _ _ e1 (lst_ned p1 e1) nl
  refine ⟨l,_,_,_,rfl,rfl,SqL.of e2,atI_nat (j:=j) (by rw [List.getElem?_map,ex_at hj]; rfl),k _ H2 (hin _ (List.getElem_mem hj)) p2 (o1.trans o2)⟩
end
def rowE (Z:List Prt):Nms:=Z.map (fun p=>p.1)++[[]]
theorem rowE_eq (Z:List Prt):nmsOf Z++[V.str (Str.ofString "")]=(rowE Z).map mkT:=by
  unfold rowE
  rw [nms_eq,List.map_append]
  rfl
theorem cutN (xs:List V) (r:Nat):cutV xs none (some (r:Int))=xs.take r:=by
  rcases Nat.le_total r xs.length with h | h
  · exact cutU h
  · unfold cutV
    rw [HT.sIx_nat,HT.sIx_none,Nat.min_eq_right h,List.take_of_length_le (show xs.length≤r from h)]
    simp
def spDeed:Sp:=fun vs H Q _=>∃ (d lo ls:Addr) (M:Md) (L R:List Prt) (ks:List Lnk) (al sp:Nms),vs=[.ref d,.ref M.m,.ref ls]∧PotAt d lo H∧MdAt [d,lo] H M L R ks al∧H ls=some (.lst (sp.map mkT))∧ls≠lo∧sp≠[]∧sp.length≤100∧(L++R).length≤200∧(∀ z∈sp++(L++R).map (·.1),z.length≤1000) ∧
  (∀ (pd:Addr) (t:Int) (n:Nat) (b x tx:List Nat) (H':Hp),H' pd=some (.tup [.str WPUT,.int t,.int (n:Nat),mkT b,mkT x,mkT tx])→n≤1→b.length≤1000→x.length≤1000→tx.length≤400→0≤t→t≤1000000000000→PotAt d lo H'→Old d lo H H'→Q (.ref pd) H') ∧
  (∀ (pd:Addr) (t:Int) (b x:List Nat) (H':Hp),H' pd=some (.tup [.str WMOVE,.int t,mkT x,mkT b])→b.length≤1000→x.length≤1000→PotAt d lo H'→Old d lo H H'→Q (.ref pd) H')
theorem old_lst {d lo l:Addr} {H H':Hp} {vs:List V} (hp:PotAt d lo H) (o:Old d lo H H') (h:H l=some (.lst vs)) (n:l≠lo):H' l=some (.lst vs):=o _ _ h (lst_ned hp h) n
section
variable {P:Program} {w:World} {K:PySem.W.Frag} {mg:Str→Option Value} {base:Heap}
theorem scDeed:FnScope ["_law_pot_here", "_law_model_here", "_law_spare", "_law_t", "_law_others", "_law_side_here", "_law_behind", "_law_name", "_law_row"] ["_law_pot_here", "_law_model_here", "_law_spare"] (defScope sDeed):=⟨rfl,rfl,rfl,by decide +kernel,rfl,by decide +kernel,by decide +kernel⟩
theorem c_deed (h:Has K mg "_law_deed" sDeed ["_law_pot_here", "_law_model_here", "_law_spare"]) (C_moments:Cal P w K mg base "_law_moments" 2 ["_law_pot_here", "_law_many"] spMoments) (C_next:Cal P w K mg base "_law_next" 1 ["_law_pot_here", "_law_many"] spNext) (C_pick:Cal P w K mg base "_law_pick" 2 ["_law_pot_here", "_law_some_here", "_law_others"] spPick) (C_text:Cal P w K mg base "_law_text" 2 ["_law_pot_here"] spText) (C_side:Cal P w K mg base "_law_side" 1 ["_law_model_here", "_law_name"] spSide) (m_int:mg "int" = none):Cal P w K mg base "_law_deed" 3 ["_law_pot_here", "_law_model_here", "_law_spare"] spDeed:=by
  refine h.mk' scDeed (fun vs H Q E hs=>?_) (fun f cdv A outer s H vs Q E hr hs=>?_)
  · obtain ⟨d,lo,ls,M,L,R,ks,al,sp,rfl,_⟩:=hs
    rfl
  obtain ⟨d,lo,ls,M,L,R,ks,al,sp,rfl,hp,hM,hls,nls,hsp,hspl,hlen,hnm,k1,k2⟩:=hs
  refine ⟨_,(pss_cons (ps_set (i:=3) scDeed.nd rfl (Or.inl rfl) (pe_ix ix_tup (pe_cal C_moments hr (by decide) rfl (pa_cons (pv 0) (pa_cons pe_int pa_nil))) pe_int (fun _ _=>rfl)))
    (pss_cons (ps_set (i:=4) scDeed.nd rfl (Or.inl rfl) (pe_op op_cat (pe_op op_cat (pe_ix ix_list (pe_dget (hu_of hr) (pv 1) pe_str (fun _ _=>rfl)) pe_int (fun _ _=>rfl)) (pe_ix ix_list (pe_dget (hu_of hr) (pv 1) pe_str (fun _ _=>rfl)) pe_int (fun _ _=>rfl))) (pe_slice sl_list (pv 2) po_none (po_some pe_int))))
    (pss_cons (ps_if (pt_cmpR op_eq (pe_cal C_next hr (by decide) rfl (pa_cons (pv 0) (pa_cons pe_int pa_nil))) pe_int (nomark _))
      (pss_cons (ps_set (i:=5) scDeed.nd rfl (Or.inl rfl) (pe_cal C_next hr (by decide) rfl (pa_cons (pv 0) (pa_cons pe_int pa_nil))))
    (pss_cons (ps_set (i:=6) scDeed.nd rfl (Or.inl rfl) (pe_cal C_pick hr (by decide) rfl (pa_cons (pv 0) (pa_cons (pe_op op_cat (pe_ix ix_list (pe_dget (hu_of hr) (pv 1) pe_str (fun _ _=>rfl)) (pv 5) (fun _ _=>rfl)) (pe_lst (pa_cons pe_str pa_nil))) (pa_cons (pv 4) pa_nil)))))
    (pss_cons (ps_set (i:=7) scDeed.nd rfl (Or.inl rfl) (pe_cal C_pick hr (by decide) rfl (pa_cons (pv 0) (pa_cons (pv 2) (pa_cons (pv 4) pa_nil)))))
    (pss_one (ps_ret (pe_tup (pa_cons pe_str (pa_cons (pv 3) (pa_cons (pv 5) (pa_cons (pv 6) (pa_cons (pv 7) (pa_cons (pe_cal C_text hr (by decide) rfl (pa_cons (pv 0) pa_nil)) pa_nil))))))))))))
      pss_nil)
    (pss_cons (ps_set (i:=7) scDeed.nd rfl (Or.inl rfl) (pe_cal C_pick hr (by decide) rfl (pa_cons (pv 0) (pa_cons (pv 4) (pa_cons (pv 4) pa_nil)))))
    (pss_cons (ps_set (i:=8) scDeed.nd rfl (Or.inl rfl) (pe_ix ix_list (pe_dget (hu_of hr) (pv 1) pe_str (fun _ _=>rfl)) (pe_callTy call_int1 rfl m_int boot_int (pa_cons (pe_cmpR op_eq (pe_cal C_side hr (by decide) rfl (pa_cons (pv 1) (pa_cons (pv 7) pa_nil))) pe_int (nomark _)) pa_nil)) (fun _ _=>rfl)))
    (pss_one (ps_ret (pe_tup (pa_cons pe_str (pa_cons (pv 3) (pa_cons (pv 7) (pa_cons (pe_cal C_pick hr (by decide) rfl (pa_cons (pv 0) (pa_cons (pe_op op_cat (pv 8) (pe_lst (pa_cons pe_str pa_nil))) (pa_cons (pv 4) pa_nil)))) pa_nil)))))))))))),?_⟩
  refine ⟨_,rfl,d,lo,1,rfl,hp,by decide,fun q ms H1 e1 g1 hl1 p1 o1=>?_⟩
  obtain ⟨t,rfl⟩:∃ t,ms=[t]:=by
    match ms,hl1 with
    | [t],_=>exact ⟨t,rfl⟩
  have ht:=g1.1 t (.head _)
  refine ⟨q,_,_,_,rfl,rfl,SqT.of e1,atI_zero _ _,?_⟩
  have hM1:=hM.keep (.old o1)
  have nl0:M.l0≠lo:=fun z=>hM.off M.l0 (by simp [Md.all]) (by rw [z]; simp)
  have nl1:M.l1≠lo:=fun z=>hM.off M.l1 (by simp [Md.all]) (by rw [z]; simp)
  have hln:∀ n,M.ln n≠lo:=fun n=>by
    rcases ln_in M n with e | e <;> rw [e] <;> assumption
  have hl1':=hlen
  rw [List.length_append] at hl1'
  have hnl:∀ Z:List Prt,(nmsOf Z).length=Z.length:=fun Z=>by unfold nmsOf; rw [List.length_map]
  refine ⟨_,rfl,M.m,_,rfl,g_rows hM1.m,M.lr,_,_,_,rfl,rfl,SqL.of hM1.lr,atI_zero _ _,_,rfl,M.m,_,rfl,g_rows hM1.m,M.lr,_,_,_,rfl,rfl,SqL.of hM1.lr,ln_at (n:=1) (Nat.le_refl _),M.l0,M.l1,_,_,rfl,rfl,hM1.l0,hM1.l1,small (by rw [hnl,hnl]; omega),fun l3 hl3=>?_⟩
  have s3:=same_new hl3 (.lst (nmsOf L++nmsOf R))
  have e3:(upd H1 l3 (.lst (nmsOf L++nmsOf R))) l3=some (.lst (nmsOf L++nmsOf R)):=upd_same
  generalize upd H1 l3 (.lst (nmsOf L++nmsOf R))=H3 at s3 e3 ⊢
  have els3:=s3 _ _ (old_lst hp o1 hls nls)
  refine ⟨_,rfl,_,rfl,ls,_,rfl,SqL.of els3,fun l4 hl4=>?_⟩
  rw [show (2:Int)=((2:Nat):Int) from rfl,cutN]
  have s4:=same_new hl4 (.lst ((sp.map mkT).take 2))
  have e4:(upd H3 l4 (.lst ((sp.map mkT).take 2))) l4=some (.lst ((sp.map mkT).take 2)):=upd_same
  generalize upd H3 l4 (.lst ((sp.map mkT).take 2))=H4 at s4 e4 ⊢
  refine ⟨l3,l4,_,_,rfl,rfl,s4 _ _ e3,e4,small (by rw [List.length_append,hnl,hnl,List.length_take]; omega),fun l5 hl5=>?_⟩
  have hoe:nmsOf L++nmsOf R++(sp.map mkT).take 2=((L++R).map (·.1)++sp.take 2).map mkT:=by
    rw [nms_eq,nms_eq,List.map_append,List.map_append,List.map_append,List.map_take]
  rw [hoe]
  have s5:=same_new hl5 (.lst (((L++R).map (·.1)++sp.take 2).map mkT))
  have e5:(upd H4 l5 (.lst (((L++R).map (·.1)++sp.take 2).map mkT))) l5=some (.lst (((L++R).map (·.1)++sp.take 2).map mkT)):=upd_same
  have p4:=(p1.same s3).same s4
  have nl5:l5≠lo:=(p4.ne hl5).2
  generalize upd H4 l5 (.lst (((L++R).map (·.1)++sp.take 2).map mkT))=H5 at s5 e5 ⊢
  have o5:Old d lo H H5:=o1.trans (.of ((s3.trans s4).trans s5))
  have p5:=p4.same s5
  have hne:(L++R).map (·.1)++sp.take 2≠[]:=fun z=>by
    have:=(List.append_eq_nil_iff.mp z).2
    match sp,hsp,this with
    | _ :: _,_,h=>cases h
  have hol:((L++R).map (·.1)++sp.take 2).length≤900:=by rw [List.length_append,List.length_map,List.length_take]; omega
  have hon:∀ z∈(L++R).map (·.1)++sp.take 2,z.length≤1000:=fun z hz=>hnm z (by
    rcases List.mem_append.mp hz with h | h
    · exact List.mem_append_right _ h
    · exact List.mem_append_left _ (List.mem_of_mem_take h))
  clear e1 hM1 s3 s4 s5 e3 e4 hl3 hl4 hl5 els3 o1 p1 p4 hoe
  generalize (L++R).map (·.1)++sp.take 2=ons at e5 hne hol hon ⊢
  refine ⟨_,rfl,d,lo,2,rfl,p5,by decide,by decide,fun r H6 r0 r1 p6 o6=>⟨rfl,_,rfl,?_⟩⟩
  have o06:=o5.trans o6
  have e56:=old_lst p5 o6 e5 nl5
  refine ite2 (fun z=>?_) (fun z=>?_)
  · refine ⟨_,rfl,d,lo,2,rfl,p6,by decide,by decide,fun r7 H7 r70 r71 p7 o7=>?_⟩
    obtain ⟨n,rfl⟩:=Int.eq_ofNat_of_zero_le r70
    have hn:n≤1:=by omega
    have o07:=o06.trans o7
    have hM7:=hM.keep (.old o07)
    have rw7:=(row_at' hM7 hn).2
    have e57:=old_lst p6 o7 e56 nl5
    refine ⟨_,rfl,_,rfl,M.m,_,rfl,g_rows hM7.m,_,rfl,M.lr,_,_,_,rfl,rfl,SqL.of hM7.lr,ln_at hn,smn 1,fun l8 hl8=>?_⟩
    have s8:=same_new hl8 (.lst [.str (Str.ofString "")])
    have e8:(upd H7 l8 (.lst [.str (Str.ofString "")])) l8=some (.lst [.str (Str.ofString "")]):=upd_same
    generalize upd H7 l8 (.lst [.str (Str.ofString "")])=H8 at s8 e8 ⊢
    have hsd:(sdP n L R).length≤200:=by unfold sdP; split <;> omega
    refine ⟨M.ln n,l8,_,_,rfl,rfl,s8 _ _ rw7,e8,small (by rw [hnl]; show _+1≤1000; omega),fun l9 hl9=>?_⟩
    have hre:=rowE_eq (sdP n L R)
    rw [hre]
    have s9:=same_new hl9 (.lst ((rowE (sdP n L R)).map mkT))
    have e9:(upd H8 l9 (.lst ((rowE (sdP n L R)).map mkT))) l9=some (.lst ((rowE (sdP n L R)).map mkT)):=upd_same
    have p8:=p7.same s8
    have nl9:l9≠lo:=(p8.ne hl9).2
    generalize upd H8 l9 (.lst ((rowE (sdP n L R)).map mkT))=H9 at s9 e9 ⊢
    have p9:=p8.same s9
    have s79:=s8.trans s9
    refine ⟨_,rfl,d,lo,l9,l5,_,ons,rfl,p9,e9,s79 _ _ e57,nl9,nl5,hne,by unfold rowE; rw [List.length_append,List.length_map]; show _+1≤900; omega,hol,fun b Ha hb pa oa=>?_⟩
    have hbl:b.length≤1000:=by
      rcases List.mem_append.mp hb with h | h
      · rcases List.mem_append.mp h with h | h
        · obtain ⟨p,hp',e⟩:=List.mem_map.mp h
          exact hnm b (List.mem_append_right _ (List.mem_map.mpr ⟨p,mem_sd hp',e⟩))
        · rw [List.mem_singleton.mp h]
          exact Nat.zero_le _
      · exact hon b h
    have o0a:Old d lo H Ha:=(o07.trans (.of s79)).trans oa
    refine ⟨_,rfl,_,rfl,_,rfl,d,lo,ls,l5,sp,ons,rfl,pa,old_lst hp o0a hls nls,old_lst p9 oa (s79 _ _ e57) nl5,nls,nl5,hne,by omega,hol,fun x Hb hx pb ob=>?_⟩
    have hxl:x.length≤1000:=by
      rcases List.mem_append.mp hx with h | h
      · exact hnm x (List.mem_append_left _ h)
      · exact hon x h
    refine ⟨_,rfl,_,rfl,_,rfl,_,rfl,_,rfl,d,lo,rfl,pb,fun tx Hc hc1 hc2 pc oc=>⟨smn 6,fun pd hpd=>?_⟩⟩
    have sd:=same_new hpd (.tup [.str WPUT,.int t,.int (n:Nat),mkT b,mkT x,mkT tx])
    exact k1 pd t n b x tx _ upd_same hn hbl hxl hc1 ht.1 ht.2 (pc.same sd) (((o0a.trans ob).trans oc).trans (.of sd))
  · refine ⟨_,rfl,_,rfl,_,rfl,d,lo,l5,l5,ons,ons,rfl,p6,e56,e56,nl5,nl5,hne,hol,hol,fun x H7 hx p7 o7=>?_⟩
    have hxl:x.length≤1000:=by
      rcases List.mem_append.mp hx with h | h <;> exact hon x h
    have o07:=o06.trans o7
    have hM7:=hM.keep (.old o07)
    have e57:=old_lst p6 o7 e56 nl5
    refine ⟨_,rfl,M.m,_,rfl,g_rows hM7.m,_,rfl,_,rfl,[d,lo],M,L,R,ks,al,x,rfl,hM7,fun H8 s8=>⟨sideV_scal (n:=1),.inr ⟨_,rfl,?_⟩⟩⟩
    have hM8:=hM7.same s8
    obtain ⟨n,hn,en⟩:∃ n:Nat,n≤1∧(if decide (sideV L R x=V.int ((1:Nat):Int))=true then (1:Int) else 0)=((n:Nat):Int):=by
      by_cases z:decide (sideV L R x=V.int ((1:Nat):Int))=true
      · exact ⟨1,Nat.le_refl _,if_pos z⟩
      · exact ⟨0,Nat.zero_le _,if_neg z⟩
    have rw8:=(row_at' hM8 hn).2
    have hat:atI [V.ref M.l0,V.ref M.l1] (if decide (sideV L R x=V.int ((1:Nat):Int))=true then (1:Int) else 0)=some (.ref (M.ln n)):=by
      rw [en]
      exact ln_at hn
    refine ⟨M.lr,_,_,.ref (M.ln n),rfl,rfl,SqL.of hM8.lr,hat,?_⟩
    refine ⟨_,rfl,_,rfl,_,rfl,_,rfl,smn 1,fun l9 hl9=>?_⟩
    have s9:=same_new hl9 (.lst [.str (Str.ofString "")])
    have e9:(upd H8 l9 (.lst [.str (Str.ofString "")])) l9=some (.lst [.str (Str.ofString "")]):=upd_same
    generalize upd H8 l9 (.lst [.str (Str.ofString "")])=H9 at s9 e9 ⊢
    have hsd:(sdP n L R).length≤200:=by unfold sdP; split <;> omega
    refine ⟨M.ln n,l9,_,_,rfl,rfl,s9 _ _ rw8,e9,small (by rw [hnl]; show _+1≤1000; omega),fun la hla=>?_⟩
    rw [rowE_eq (sdP n L R)]
    have sa:=same_new hla (.lst ((rowE (sdP n L R)).map mkT))
    have ea:(upd H9 la (.lst ((rowE (sdP n L R)).map mkT))) la=some (.lst ((rowE (sdP n L R)).map mkT)):=upd_same
    have p9:=(p7.same s8).same s9
    have nla:la≠lo:=(p9.ne hla).2
    generalize upd H9 la (.lst ((rowE (sdP n L R)).map mkT))=Ha at sa ea ⊢
    have pa:=p9.same sa
    have s7a:=(s8.trans s9).trans sa
    refine ⟨_,rfl,d,lo,la,l5,_,ons,rfl,pa,ea,s7a _ _ e57,nla,nl5,hne,by unfold rowE; rw [List.length_append,List.length_map]; show _+1≤900; omega,hol,fun b Hb hb pb ob=>⟨smn 4,fun pd hpd=>?_⟩⟩
    have hbl:b.length≤1000:=by
      rcases List.mem_append.mp hb with h | h
      · rcases List.mem_append.mp h with h | h
        · obtain ⟨p,hp',e⟩:=List.mem_map.mp h
          exact hnm b (List.mem_append_right _ (List.mem_map.mpr ⟨p,mem_sd hp',e⟩))
        · rw [List.mem_singleton.mp h]
          exact Nat.zero_le _
      · exact hon b h
    have sd:=same_new hpd (.tup [.str WMOVE,.int t,mkT x,mkT b])
    exact k2 pd t b x _ upd_same hbl hxl (pb.same sd) (((o07.trans (.of s7a)).trans ob).trans (.of sd))
end
structure Tell (L R:List Prt) (ks:List Lnk) (al:Nms):Prop where
  mo:∀ p∈L++R,p.2.2.Pairwise (· < ·)∧p.2.2.length≤60
  lL:L.length≤60
  lR:R.length≤60
  gl:∀ k∈ks,GoodL k
  up:ks.Pairwise fun a b=>dlt (linkD a) (linkD b)=true
  lk:ks.length≤60
  kn:∀ k∈ks,k.1.length≤60∧k.2.1.length≤60∧k.2.2.2.1.length≤60∧k.2.2.2.2.length≤60
  ga:GoodN al
  la:al.length≤60
theorem up_of {α:Type} {f:α→D} {xs:List α} (h:xs.Pairwise fun a b=>dlt (f a) (f b)=true):UpD (xs.map f):=by
  unfold UpD
  rw [List.pairwise_map]
  refine h.imp fun {a b} h=>?_
  cases z:dlt (f b) (f a) with
  | false=>rfl
  | true =>
    have:=dlt_tr _ _ _ h z
    rw [dlt_irr] at this
    cases this
theorem MdAt.grow {S:List Addr} {H:Hp} {M:Md} {L R:List Prt} {ks:List Lnk} {al:Nms} {a:Addr} (h:MdAt S H M L R ks al) (ha:H a=none):MdAt (a :: S) H M L R ks al:=by
  have ne:∀ {b:Addr} {o:HO},H b=some o→b≠a:=fun e=>ne_of_none e ha
  have tt:∀ {b:Addr} {o:HO},H b=some o→b ∉ M.l0 :: M.l1 :: S→b ∉ M.l0 :: M.l1 :: a :: S:=fun e n z=>by
    simp only [List.mem_cons,not_or] at n z
    rcases z with z | z | z | z
    · exact n.1 z
    · exact n.2.1 z
    · exact ne e z
    · exact n.2.2 z
  obtain ⟨kt,et,_⟩:=h.t.ex
  obtain ⟨kw,ew,hwl,hkw⟩:=h.w.ex
  obtain ⟨us,eu,hul,hus⟩:=h.lk.ex
  refine ⟨h.m,h.t,⟨kw,ew,hwl,fun p hp=>?_⟩,h.lr,h.l0,h.l1,⟨us,eu,hul,fun i u k hu hk=>?_⟩,h.la,fun b hb z=>?_,h.nd⟩
  · obtain ⟨l,w1,w2,w3⟩:=hkw p hp
    exact ⟨l,w1,tt w3 w2,w3⟩
  · obtain ⟨q,c1,c2,c3,c4,e,n1,n2,n3,n4,n5,e1,e2,e3,e4,e5⟩:=(hus i u k hu hk).ex
    exact ⟨q,c1,c2,c3,c4,e,tt e1 n1,tt e2 n2,tt e3 n3,tt e4 n4,tt e5 n5,e1,e2,e3,e4,e5⟩
  · rcases List.mem_cons.mp z with z | z
    · have:∃ o,H b=some o:=by
        simp only [Md.all,List.mem_cons,List.not_mem_nil,or_false] at hb
        rcases hb with rfl | rfl | rfl | rfl | rfl | rfl | rfl | rfl
        · exact ⟨_,h.m⟩
        · exact ⟨_,et⟩
        · exact ⟨_,ew⟩
        · exact ⟨_,h.lr⟩
        · exact ⟨_,h.l0⟩
        · exact ⟨_,h.l1⟩
        · exact ⟨_,eu⟩
        · exact ⟨_,h.la⟩
      obtain ⟨o,ho⟩:=this
      exact ne ho z
    · exact h.off b hb z
def But (a:Addr) (H H':Hp):Prop:=∀ c o,H c=some o→c≠a→H' c=some o
theorem But.keep {a:Addr} {S:List Addr} {H H':Hp} (h:But a H H'):Keep (a :: S) H H':=fun c o e n=>h c o e fun z=>n (by rw [z]; exact .head _)
theorem But.tup {a:Addr} {H H':Hp} {us:List V} (h:But a H H') (ha:H a=some (.lst us)):∀ (b:Addr) (vs:List V),H b=some (.tup vs)→H' b=some (.tup vs):=fun b vs e=>h b _ e (ne_of e ha (by intro z; cases z))
theorem But.trans {a:Addr} {H H1 H2:Hp} (h:But a H H1) (g:But a H1 H2):But a H H2:=fun c o e n=>g c o (h c o e n) n
theorem But.of {a:Addr} {H H':Hp} (s:Same H H'):But a H H':=fun c o e _=>s c o e
theorem But.upd {a:Addr} {H:Hp} (o:HO):But a H (upd H a o):=fun c u e n=>by rw [upd_ne n]; exact e
theorem But.same {a:Addr} {H0 H H':Hp} (s:Same H0 H) (ha:H0 a=none) (h:But a H H'):Same H0 H':=fun c o e=>h c o (s c o e) (ne_of_none e ha)
theorem nums_again {ms ns:List Int} {ks:List Int} (hm:ms.Nodup) (hi:∀ k,k∈ms↔k∈ks) (hp:ns.Perm ms) (hs:ns.Pairwise (· ≤ ·)) (hk:ks.Pairwise (· < ·)):ns=ks :=
  up_uniq hk hs (hp.nodup_iff.mpr hm) fun k=>(hp.mem_iff).trans (hi k)
def spAsBook:Sp:=fun vs H Q _=>∃ (S:List Addr) (M:Md) (L R:List Prt) (ks:List Lnk) (al:Nms),vs=[.ref M.m]∧MdAt S H M L R ks al∧Tell L R ks al∧∀ (u:V) (H':Hp),Same H H'→Den H' u (bookD L R ks al)→Q u H'
section
variable {P:Program} {w:World} {K:PySem.W.Frag} {mg:Str→Option Value} {base:Heap}
theorem scAsBook:FnScope ["_law_model_here", "_law_sides_here", "_law_row", "_law_parts", "_law_name", "_law_moments_here", "_law_links", "_law_ones", "_law_others", "_law_told", "_law_left", "_law_right", "_law_lost"] ["_law_model_here"] (defScope sAsBook):=⟨rfl,rfl,rfl,by decide +kernel,rfl,by decide +kernel,by decide +kernel⟩
theorem c_as_book (h:Has K mg "_law_as_book" sAsBook ["_law_model_here"]) (m_tuple:mg "tuple" = none) (m_sorted:mg "sorted" = none) (m_set:mg "set" = none):Cal P w K mg base "_law_as_book" 1 ["_law_model_here"] spAsBook:=by
  refine h.mk' scAsBook (fun vs H Q E hs=>?_) (fun f cdv A outer s H vs Q E hr hs=>?_)
  · obtain ⟨S,M,L,R,ks,al,rfl,_⟩:=hs
    rfl
  obtain ⟨S,M,L,R,ks,al,rfl,hM,hT,k⟩:=hs
  refine ⟨_,(pss_cons (ps_set (i:=1) scAsBook.nd rfl (Or.inl rfl) (pe_lst pa_nil))
    (pss_cons (ps_for PassesOwn.never rfl (pi_list (pe_dget (hu_of hr) (pv 0) pe_str (fun _ _=>rfl))) (pg_name (i:=2) scAsBook.nd rfl (Or.inl rfl))
      (pss_cons (ps_set (i:=3) scAsBook.nd rfl (Or.inl rfl) (pe_lst pa_nil))
    (pss_cons (ps_for PassesOwn.never rfl (pi_list (pv 2)) (pg_name (i:=4) scAsBook.nd rfl (Or.inl rfl))
      (pss_cons (ps_set (i:=5) scAsBook.nd rfl (Or.inl rfl) (pe_callTy call_tuple_of rfl m_tuple boot_tuple (pa_cons (pe_callB (call_sortedSNw (w:=w) rfl rfl hr.units) rfl m_sorted boot_sorted (pa_cons (pe_callTy (call_setNw (w:=w) rfl rfl) rfl m_set boot_set (pa_cons (pe_dget (hu_of hr) (pe_dget (hu_of hr) (pv 0) pe_str (fun _ _=>rfl)) (pv 4) (fun _ _=>rfl)) pa_nil)) pa_nil)) pa_nil)))
    (pss_one (ps_expr (pe_bm PySem.F.plainAttrs_list PySem.F.slot_list_append PySem.F.type_list_append mt_append (pv 3) (pa_cons (pe_tup (pa_cons (pv 4) (pa_cons (pe_dget (hu_of hr) (pe_dget (hu_of hr) (pv 0) pe_str (fun _ _=>rfl)) (pv 4) (fun _ _=>rfl)) (pa_cons (pv 5) pa_nil)))) pa_nil))))))
    (pss_one (ps_expr (pe_bm PySem.F.plainAttrs_list PySem.F.slot_list_append PySem.F.type_list_append mt_append (pv 1) (pa_cons (pe_callTy call_tuple_of rfl m_tuple boot_tuple (pa_cons (pv 3) pa_nil)) pa_nil)))))))
    (pss_cons (ps_set (i:=6) scAsBook.nd rfl (Or.inl rfl) (pe_lst pa_nil))
    (pss_cons (ps_for PassesOwn.never rfl (pi_list (pe_dget (hu_of hr) (pv 0) pe_str (fun _ _=>rfl))) (pg_lst rfl (pgs_cons (pg_name (i:=7) scAsBook.nd rfl (Or.inl rfl)) (pgs_cons (pg_name (i:=8) scAsBook.nd rfl (Or.inl rfl)) (pgs_cons (pg_name (i:=9) scAsBook.nd rfl (Or.inl rfl)) (pgs_cons (pg_name (i:=10) scAsBook.nd rfl (Or.inl rfl)) (pgs_cons (pg_name (i:=11) scAsBook.nd rfl (Or.inl rfl)) pgs_nil))))))
      (pss_cons (ps_set (i:=12) scAsBook.nd rfl (Or.inl rfl) (pe_tup (pa_cons (pe_callTy call_tuple_of rfl m_tuple boot_tuple (pa_cons (pe_callB (call_sortedSNw (w:=w) rfl rfl hr.units) rfl m_sorted boot_sorted (pa_cons (pe_callTy (call_setNw (w:=w) rfl rfl) rfl m_set boot_set (pa_cons (pv 10) pa_nil)) pa_nil)) pa_nil)) (pa_cons (pe_callTy call_tuple_of rfl m_tuple boot_tuple (pa_cons (pe_callB (call_sortedSNw (w:=w) rfl rfl hr.units) rfl m_sorted boot_sorted (pa_cons (pe_callTy (call_setNw (w:=w) rfl rfl) rfl m_set boot_set (pa_cons (pv 11) pa_nil)) pa_nil)) pa_nil)) pa_nil))))
    (pss_one (ps_expr (pe_bm PySem.F.plainAttrs_list PySem.F.slot_list_append PySem.F.type_list_append mt_append (pv 6) (pa_cons (pe_tup (pa_cons (pe_callTy call_tuple_of rfl m_tuple boot_tuple (pa_cons (pe_callB (call_sortedD hr.units) rfl m_sorted boot_sorted (pa_cons (pv 7) pa_nil)) pa_nil)) (pa_cons (pe_callTy call_tuple_of rfl m_tuple boot_tuple (pa_cons (pe_callB (call_sortedD hr.units) rfl m_sorted boot_sorted (pa_cons (pv 8) pa_nil)) pa_nil)) (pa_cons (pv 9) (pa_cons (pv 12) pa_nil))))) pa_nil))))))
    (pss_one (ps_ret (pe_tup (pa_cons (pe_ix ix_list (pv 1) pe_int (fun _ _=>rfl)) (pa_cons (pe_ix ix_list (pv 1) pe_int (fun _ _=>rfl)) (pa_cons (pe_callTy call_tuple_of rfl m_tuple boot_tuple (pa_cons (pe_callB (call_sortedD hr.units) rfl m_sorted boot_sorted (pa_cons (pv 6) pa_nil)) pa_nil)) (pa_cons (pe_callTy call_tuple_of rfl m_tuple boot_tuple (pa_cons (pe_callB (call_sortedD hr.units) rfl m_sorted boot_sorted (pa_cons (pe_dget (hu_of hr) (pv 0) pe_str (fun _ _=>rfl)) pa_nil)) pa_nil)) pa_nil))))))))))),?_⟩
  refine ⟨smn 0,fun ls hls=>gN ?_⟩
  have s1:=same_new hls (.lst [])
  have e1:(upd H ls (.lst [])) ls=some (.lst []):=upd_same
  generalize upd H ls (.lst [])=H1 at s1 e1 ⊢
  have hM1:=(hM.grow hls).same s1
  refine ⟨_,rfl,M.m,_,rfl,g_rows hM1.m,M.lr,rfl,⟨_,SqL.of hM1.lr⟩,?_⟩
  have nlr:M.lr≠ls:=fun z=>hM1.off M.lr (by simp [Md.all]) (by rw [z]; exact .head _)
  refine for_list (K:=K) (a:=M.lr) (xs:=[V.ref M.l0,V.ref M.l1]) (fun i σ H2=>∃ (v2 v3 v4 v5:Option V) (us:List V),σ=[some (.ref M.m),some (.ref ls),v2,v3,v4,v5,none,none,none,none,none,none,none]∧But ls H1 H2∧H2 ls=some (.lst us)∧us.length=i∧DenL H2 us ([D.tup (L.map partD),D.tup (R.map partD)].take i)) ⟨_,_,_,_,[],rfl,.of (Same.refl _),e1,rfl,trivial⟩ ?_ ?_ ?_
  · rintro i σ H2 _ ⟨_,_,_,_,_,_,b2,_⟩
    exact SqL.of (b2 _ _ hM1.lr nlr)
  · rintro i y σ H2 hi ⟨v2,v3,v4,v5,us,rfl,b2,e2,hul,d2⟩
    obtain ⟨hi1,rfl⟩:i≤1∧y=.ref (M.ln i):=by
      match i,hi with
      | 0,hi=>exact ⟨by omega,(Option.some.inj hi).symm⟩
      | 1,hi=>exact ⟨by omega,(Option.some.inj hi).symm⟩
    have hM2:=hM1.keep b2.keep
    refine hidS fun E1 hE1=>gN ⟨smn 0,fun lp hlp=>gN ?_⟩
    have s3:=same_new hlp (.lst [])
    have e3:(upd H2 lp (.lst [])) lp=some (.lst []):=upd_same
    have nlp:ls≠lp:=ne_of_none e2 hlp
    generalize upd H2 lp (.lst [])=H3 at s3 e3 ⊢
    have hM3:=(hM2.grow hlp).same s3
    obtain ⟨_,hrow⟩:=row_at' hM3 hi1
    have hZl:(sdP i L R).length≤60:=by have:=hT.lL; have:=hT.lR; unfold sdP; split <;> omega
    have nrow:M.ln i≠lp:=fun z=>by
      rcases ln_in M i with e | e
      · exact hM3.off M.l0 (by simp [Md.all]) (by rw [← e,z]; exact .head _)
      · exact hM3.off M.l1 (by simp [Md.all]) (by rw [← e,z]; exact .head _)
    obtain ⟨kt,et,_,hkt⟩:=hM3.t.ex
    obtain ⟨kw,ew,_,hkw⟩:=hM3.w.ex
    have hsub:∀ p∈sdP i L R,p∈L++R:=fun p h=>mem_sd h
    refine ⟨_,rfl,M.ln i,rfl,⟨_,SqL.of hrow⟩,?_⟩
    generalize hZ:sdP i L R=Z at *
    refine for_list (K:=K) (a:=M.ln i) (xs:=nmsOf Z) (fun j σ H4=>∃ (v4 v5:Option V) (ps:List V),σ=[some (.ref M.m),some (.ref ls),some (.ref (M.ln i)),some (.ref lp),v4,v5,none,none,none,none,none,none,none]∧But lp H3 H4∧H4 lp=some (.lst ps)∧ps.length=j∧DenL H4 ps ((Z.take j).map partD)) ⟨_,_,[],rfl,.of (Same.refl _),e3,rfl,trivial⟩ ?_ ?_ ?_
    · rintro j σ H4 _ ⟨_,_,_,_,b4,_⟩
      exact SqL.of (b4 _ _ hrow nrow)
    · rintro j y σ H4 hj ⟨v4,v5,ps,rfl,b4,e4,hpl,d4⟩
      have hjl:j < Z.length:=by
        have:=(List.getElem?_eq_some_iff.mp hj).1
        unfold nmsOf at this
        rwa [List.length_map] at this
      have ey:y=mkT Z[j].1:=by
        unfold nmsOf at hj
        rw [List.getElem?_map,ex_at hjl] at hj
        exact (Option.some.inj hj).symm
      have hq:=hsub _ (List.getElem_mem hjl)
      have htk:=take_one (ex_at hjl)
      generalize Z[j]=q at ey hq htk
      subst ey
      have hM4:=hM3.keep b4.keep
      have hmo:=hT.mo q hq
      obtain ⟨lw,w1,w2,w3⟩:=hkw q hq
      have ew4:=b4 _ _ ew (fun z=>hM3.off M.dw (by simp [Md.all]) (by rw [z]; exact .head _))
      have et4:=b4 _ _ et (fun z=>hM3.off M.dt (by simp [Md.all]) (by rw [z]; exact .head _))
      have w34:=b4 _ _ w3 (fun z=>w2 (by rw [z]; simp))
      have hgw:DGet H4 M.dw (mkT q.1) (some (.ref lw)):=by rw [← w1]; exact DGet.k (k:=nk q.1) ew4
      refine hidS fun E2 hE2=>gN ⟨_,rfl,M.m,_,rfl,g_when hM4.m,_,rfl,M.dw,_,rfl,hgw,lw,q.2.2,rfl,SqL.of w34,by omega,fun sa ms hsa hnd hmem hml=>⟨sa,ms,rfl,upd_same,by omega,fun lo ns hlo hperm hsort=>⟨lo,_,rfl,.inl ⟨SqL.of upd_same,fun tq htq=>?_⟩⟩⟩⟩
      have hns:ns=q.2.2:=nums_again hnd hmem hperm hsort hmo.1
      subst hns
      have s5:=((same_new hsa (.ext (intΦ w sa ms))).trans (same_new hlo (.lst (q.2.2.map V.int)))).trans (same_new htq (.tup (q.2.2.map V.int)))
      have e5:(upd (upd (upd H4 sa (.ext (intΦ w sa ms))) lo (.lst (q.2.2.map V.int))) tq (.tup (q.2.2.map V.int))) tq=some (.tup (q.2.2.map V.int)):=upd_same
      generalize upd (upd (upd H4 sa (.ext (intΦ w sa ms))) lo (.lst (q.2.2.map V.int))) tq (.tup (q.2.2.map V.int))=H5 at s5 e5 ⊢
      have hM5:=hM4.same s5
      have hgt:DGet H5 M.dt (mkT q.1) (some (mkT q.2.1)):=by rw [← hkt q hq]; exact DGet.k (k:=nk q.1) (s5 _ _ et4)
      refine ⟨_,rfl,.inl ⟨rfl,_,SqL.of (s5 _ _ e4)⟩,_,rfl,_,rfl,M.m,_,rfl,g_text hM5.m,_,rfl,M.dt,_,rfl,hgt,_,rfl,smn 3,fun t ht=>?_⟩
      have s6:=same_new ht (.tup [mkT q.1,mkT q.2.1,.ref tq])
      have e6:(upd H5 t (.tup [mkT q.1,mkT q.2.1,.ref tq])) t=some (.tup [mkT q.1,mkT q.2.1,.ref tq]):=upd_same
      generalize upd H5 t (.tup [mkT q.1,mkT q.2.1,.ref tq])=H6 at s6 e6 ⊢
      have e46:=s6 _ _ (s5 _ _ e4)
      refine ⟨lp,ps,_,rfl,rfl,e46,small1000 (by omega),hE2.n _ _ ⟨_,_,ps++[.ref t],rfl,(b4.trans (.of (s5.trans s6))).trans (.upd _),upd_same,by rw [List.length_append,hpl]; rfl,?_⟩⟩
      rw [htk,List.map_append]
      exact denl_app (((d4.same s5).same s6).keepT (kt_of e46)) ⟨⟨t,_,rfl,kt_of e46 _ _ e6,rfl,rfl,⟨tq,_,rfl,kt_of e46 _ _ (s6 _ _ e5),denI_of _ _⟩,trivial⟩,trivial⟩
    · rintro σ H4 ⟨v4,v5,ps,rfl,b4,e4,hpl,d4⟩
      have hnl:(nmsOf Z).length=Z.length:=by unfold nmsOf; rw [List.length_map]
      rw [hnl,List.take_length] at d4
      have e24:=b4 _ _ (s3 _ _ e2) nlp
      refine ⟨_,rfl,.inl ⟨rfl,_,SqL.of e24⟩,_,rfl,lp,_,rfl,.inl ⟨SqL.of e4,fun tp htp=>?_⟩⟩
      have s5:=same_new htp (.tup ps)
      have e5:(upd H4 tp (.tup ps)) tp=some (.tup ps):=upd_same
      generalize upd H4 tp (.tup ps)=H5 at s5 e5 ⊢
      have e25:=s5 _ _ e24
      have d25:DenL H5 us ([D.tup (L.map partD),D.tup (R.map partD)].take i):=(((d2.same s3).keepT (b4.tup e3)).same s5)
      have htk:[D.tup (L.map partD),D.tup (R.map partD)].take (i+1)=[D.tup (L.map partD),D.tup (R.map partD)].take i++[D.tup (Z.map partD)]:=by
        rw [← hZ]
        match i,hi1 with
        | 0,_=>rfl
        | 1,_=>rfl
      refine ⟨ls,us,_,rfl,rfl,e25,small1000 (by omega),hE1.n _ _ ⟨_,_,_,_,us++[.ref tp],rfl,fun c o e n=>?_,upd_same,by rw [List.length_append,hul]; rfl,?_⟩⟩
      · rw [upd_ne n]
        have h2:=b2 c o e n
        exact s5 _ _ (b4 _ _ (s3 _ _ h2) (ne_of_none h2 hlp))
      · rw [htk]
        exact denl_app (d25.keepT (kt_of e25)) ⟨⟨tp,_,rfl,kt_of e25 _ _ e5,(d4.same s5).keepT (kt_of e25)⟩,trivial⟩
  · rintro σ H2 ⟨v2,v3,v4,v5,us,rfl,b2,e2,hul,d2⟩
    obtain ⟨u0,u1,rfl⟩:∃ u0 u1,us=[u0,u1]:=by
      match us,hul with
      | [u0,u1],_=>exact ⟨u0,u1,rfl⟩
    have d0:Den H2 u0 (.tup (L.map partD)):=d2.1
    have d1:Den H2 u1 (.tup (R.map partD)):=d2.2.1
    have hM2:=hM1.keep b2.keep
    have s02:Same H H2:=But.same s1 hls b2
    clear d2 b2
    refine ⟨smn 0,fun lk hlk=>gN ?_⟩
    have s3:=same_new hlk (.lst [])
    have e3:(upd H2 lk (.lst [])) lk=some (.lst []):=upd_same
    have nlk:ls≠lk:=ne_of_none e2 hlk
    generalize upd H2 lk (.lst [])=H3 at s3 e3 ⊢
    have hM3:=(hM2.grow hlk).same s3
    obtain ⟨ws,ewl,hwl,hws⟩:=hM3.lk.ex
    have nMlk:M.lk≠lk:=fun z=>hM3.off M.lk (by simp [Md.all]) (by rw [z]; exact .head _)
    refine ⟨_,rfl,M.m,_,rfl,g_links hM3.m,M.lk,rfl,⟨_,SqL.of ewl⟩,?_⟩
    refine for_list (K:=K) (a:=M.lk) (xs:=ws) (fun i σ H4=>∃ (v7 v8 v9 v10 v11 v12:Option V) (ps:List V),σ=[some (.ref M.m),some (.ref ls),v2,v3,v4,v5,some (.ref lk),v7,v8,v9,v10,v11,v12]∧But lk H3 H4∧H4 lk=some (.lst ps)∧ps.length=i∧DenL H4 ps ((ks.take i).map linkD)) ⟨_,_,_,_,_,_,[],rfl,.of (Same.refl _),e3,rfl,trivial⟩ ?_ ?_ ?_
    · rintro i σ H4 _ ⟨_,_,_,_,_,_,_,_,b4,_⟩
      exact SqL.of (b4 _ _ ewl nMlk)
    · rintro i y σ H4 hi ⟨v7,v8,v9,v10,v11,v12,ps,rfl,b4,e4,hpl,d4⟩
      have hil:i < ks.length:=by
        have:=(List.getElem?_eq_some_iff.mp hi).1
        omega
      obtain ⟨q,a,b,c,d,rfl,n1,n2,n3,n4,n5,f1,f2,f3,f4,f5⟩:=(hws i y _ hi (ex_at hil)).ex
      have hg:=hT.gl _ (List.getElem_mem hil)
      have hkn:=hT.kn _ (List.getElem_mem hil)
      have htk:=take_one (ex_at hil)
      generalize ks[i]=kk at f1 f2 f3 f4 f5 hg hkn htk
      have kp:∀ {x:Addr} {o:HO},H3 x=some o→x ∉ M.l0 :: M.l1 :: lk :: ls :: S→H4 x=some o:=fun e n=>b4 _ _ e fun z=>n (by rw [z]; simp)
      have f1:=kp f1 n1
      have f2:=kp f2 n2
      have f3:=kp f3 n3
      have f4:=kp f4 n4
      have f5:=kp f5 n5
      refine hidS fun E1 hE1=>⟨q,_,rfl,SqL.of f1,rfl,_,_,rfl,_,_,rfl,_,_,rfl,_,_,rfl,_,_,rfl,rfl,?_⟩
      refine ⟨_,rfl,c,_,rfl,SqL.of f4,by omega,fun sa ms hsa hnd hmem hml=>⟨sa,ms,rfl,upd_same,by omega,fun lo ns hlo hperm hsort=>⟨lo,_,rfl,.inl ⟨SqL.of upd_same,fun t1 ht1=>?_⟩⟩⟩⟩
      have hns:ns=kk.2.2.2.1:=nums_again hnd hmem hperm hsort hg.2.2.2.2.2.2.1.2.1
      subst hns
      have s5:=((same_new hsa (.ext (intΦ w sa ms))).trans (same_new hlo (.lst (kk.2.2.2.1.map V.int)))).trans (same_new ht1 (.tup (kk.2.2.2.1.map V.int)))
      have e5:(upd (upd (upd H4 sa (.ext (intΦ w sa ms))) lo (.lst (kk.2.2.2.1.map V.int))) t1 (.tup (kk.2.2.2.1.map V.int))) t1=some (.tup (kk.2.2.2.1.map V.int)):=upd_same
      generalize upd (upd (upd H4 sa (.ext (intΦ w sa ms))) lo (.lst (kk.2.2.2.1.map V.int))) t1 (.tup (kk.2.2.2.1.map V.int))=H5 at s5 e5 ⊢
      clear hsa hlo ht1 hnd hmem hml hperm hsort
      refine ⟨_,rfl,d,_,rfl,SqL.of (s5 _ _ f5),by omega,fun sa ms hsa hnd hmem hml=>⟨sa,ms,rfl,upd_same,by omega,fun lo ns hlo hperm hsort=>⟨lo,_,rfl,.inl ⟨SqL.of upd_same,fun t2 ht2=>?_⟩⟩⟩⟩
      have hns:ns=kk.2.2.2.2:=nums_again hnd hmem hperm hsort hg.2.2.2.2.2.2.2.2.1
      subst hns
      have s6:=((same_new hsa (.ext (intΦ w sa ms))).trans (same_new hlo (.lst (kk.2.2.2.2.map V.int)))).trans (same_new ht2 (.tup (kk.2.2.2.2.map V.int)))
      have e6:(upd (upd (upd H5 sa (.ext (intΦ w sa ms))) lo (.lst (kk.2.2.2.2.map V.int))) t2 (.tup (kk.2.2.2.2.map V.int))) t2=some (.tup (kk.2.2.2.2.map V.int)):=upd_same
      generalize upd (upd (upd H5 sa (.ext (intΦ w sa ms))) lo (.lst (kk.2.2.2.2.map V.int))) t2 (.tup (kk.2.2.2.2.map V.int))=H6 at s6 e6 ⊢
      clear hsa hlo ht2 hnd hmem hml hperm hsort
      refine ⟨smn 2,fun t3 ht3=>?_⟩
      have s7:=same_new ht3 (.tup [.ref t1,.ref t2])
      have e7:(upd H6 t3 (.tup [.ref t1,.ref t2])) t3=some (.tup [.ref t1,.ref t2]):=upd_same
      generalize upd H6 t3 (.tup [.ref t1,.ref t2])=H7 at s7 e7 ⊢
      have s47:=(s5.trans s6).trans s7
      have dl:Den H7 (.ref t3) (.tup [momD kk.2.2.2.1,momD kk.2.2.2.2]):=⟨t3,_,rfl,e7,⟨t1,_,rfl,(s6.trans s7) _ _ e5,denI_of _ _⟩,⟨t2,_,rfl,s7 _ _ e6,denI_of _ _⟩,trivial⟩
      refine ⟨_,rfl,.inl ⟨rfl,_,SqL.of (s47 _ _ e4)⟩,_,rfl,a,_,_,rfl,.inl (SqL.of (s47 _ _ f2)),denS_of _ kk.1,hom_names kk.1,by rw [List.length_map]; omega,fun x hx=>?_,fun l8 us8 ds8 hl8 pm8 up8 dn8=>⟨l8,_,rfl,.inl ⟨SqL.of upd_same,fun t4 ht4=>?_⟩⟩⟩
      · obtain ⟨y,_,rfl⟩:=List.mem_map.mp hx
        exact shal_ups (n:=0) (shal_str _) 50
      have hd8:=upD_unique up8 (up_of hg.1.2.1) pm8
      subst hd8
      have hu8:=denS dn8
      subst hu8
      have s8:=(same_new hl8 (.lst (kk.1.map mkT))).trans (same_new ht4 (.tup (kk.1.map mkT)))
      have e8:(upd (upd H7 l8 (.lst (kk.1.map mkT))) t4 (.tup (kk.1.map mkT))) t4=some (.tup (kk.1.map mkT)):=upd_same
      generalize upd (upd H7 l8 (.lst (kk.1.map mkT))) t4 (.tup (kk.1.map mkT))=H8 at s8 e8 ⊢
      have s48:=s47.trans s8
      refine ⟨_,rfl,b,_,_,rfl,.inl (SqL.of (s48 _ _ f3)),denS_of _ kk.2.1,hom_names kk.2.1,by rw [List.length_map]; omega,fun x hx=>?_,fun l9 us9 ds9 hl9 pm9 up9 dn9=>⟨l9,_,rfl,.inl ⟨SqL.of upd_same,fun t5 ht5=>?_⟩⟩⟩
      · obtain ⟨y,_,rfl⟩:=List.mem_map.mp hx
        exact shal_ups (n:=0) (shal_str _) 50
      have hd9:=upD_unique up9 (up_of hg.2.1.2.1) pm9
      subst hd9
      have hu9:=denS dn9
      subst hu9
      have s9:=(same_new hl9 (.lst (kk.2.1.map mkT))).trans (same_new ht5 (.tup (kk.2.1.map mkT)))
      have e9:(upd (upd H8 l9 (.lst (kk.2.1.map mkT))) t5 (.tup (kk.2.1.map mkT))) t5=some (.tup (kk.2.1.map mkT)):=upd_same
      generalize upd (upd H8 l9 (.lst (kk.2.1.map mkT))) t5 (.tup (kk.2.1.map mkT))=H9 at s9 e9 ⊢
      refine ⟨_,rfl,_,rfl,smn 4,fun t6 ht6=>?_⟩
      have sa:=same_new ht6 (.tup [.ref t4,.ref t5,.int kk.2.2.1,.ref t3])
      have ea:(upd H9 t6 (.tup [.ref t4,.ref t5,.int kk.2.2.1,.ref t3])) t6=some (.tup [.ref t4,.ref t5,.int kk.2.2.1,.ref t3]):=upd_same
      generalize upd H9 t6 (.tup [.ref t4,.ref t5,.int kk.2.2.1,.ref t3])=Ha at sa ea ⊢
      have s9a:=s9.trans sa
      have s4a:=s48.trans s9a
      have e4a:=s4a _ _ e4
      have dk:Den Ha (.ref t6) (linkD kk):=⟨t6,_,rfl,ea,⟨t4,_,rfl,s9a _ _ e8,denS_of _ _⟩,⟨t5,_,rfl,sa _ _ e9,denS_of _ _⟩,rfl,dl.same (s8.trans s9a),trivial⟩
      refine ⟨lk,ps,_,rfl,rfl,e4a,small1000 (by have:=hT.lk; omega),hE1.n _ _ ⟨_,_,_,_,_,_,ps++[.ref t6],rfl,(b4.trans (.of s4a)).trans (.upd _),upd_same,by rw [List.length_append,hpl]; rfl,?_⟩⟩
      rw [htk,List.map_append]
      exact denl_app ((d4.same s4a).keepT (kt_of e4a)) ⟨dk.keepT (kt_of e4a),trivial⟩
    · rintro σ H4 ⟨v7,v8,v9,v10,v11,v12,ps,rfl,b4,e4,hpl,d4⟩
      rw [hwl,List.take_length] at d4
      have hlks:=hT.lk
      have els:=b4 _ _ (s3 _ _ e2) nlk
      have hM4:=hM3.keep b4.keep
      have k4:∀ (b:Addr) (vs:List V),H2 b=some (.tup vs)→H4 b=some (.tup vs):=fun b vs e=>b4.tup e3 _ _ (s3 _ _ e)
      have s04:Same H H4:=fun x o e=>b4 _ _ (s3 _ _ (s02 _ _ e)) (ne_of_none (s02 _ _ e) hlk)
      refine ⟨_,rfl,ls,_,_,_,rfl,rfl,SqL.of els,atI_zero _ _,_,rfl,ls,_,_,_,rfl,rfl,SqL.of els,atI_nat (xs:=[u0,u1]) (j:=1) rfl,?_⟩
      refine ⟨_,rfl,lk,ps,_,rfl,.inl (SqL.of e4),d4,hom_links ks,by rw [List.length_map]; omega,fun x hx=>?_,fun l5 us5 ds5 hl5 pm5 up5 dn5=>⟨l5,_,rfl,.inl ⟨SqL.of upd_same,fun t5 ht5=>?_⟩⟩⟩
      · obtain ⟨y,hy,rfl⟩:=List.mem_map.mp hx
        exact show Shal 50 _ from shal_ups (n:=3) (shal_link (hT.gl y hy)) 47
      have hd5:=upD_unique up5 (up_of hT.up) pm5
      subst hd5
      have s5:=(same_new hl5 (.lst us5)).trans (same_new ht5 (.tup us5))
      have e5:(upd (upd H4 l5 (.lst us5)) t5 (.tup us5)) t5=some (.tup us5):=upd_same
      generalize upd (upd H4 l5 (.lst us5)) t5 (.tup us5)=H5 at s5 e5 ⊢
      have hM5:=hM4.same s5
      have hala:=hT.la
      refine ⟨_,rfl,M.m,_,rfl,g_alone hM5.m,M.la,_,_,rfl,.inl (SqL.of hM5.la),denS_of _ al,hom_names al,by rw [List.length_map]; omega,fun x hx=>?_,fun l6 us6 ds6 hl6 pm6 up6 dn6=>⟨l6,_,rfl,.inl ⟨SqL.of upd_same,fun t6 ht6=>⟨smn 4,fun t ht=>?_⟩⟩⟩⟩
      · obtain ⟨y,_,rfl⟩:=List.mem_map.mp hx
        exact shal_ups (n:=0) (shal_str _) 50
      have hd6:=upD_unique up6 (up_of hT.ga.2.1) pm6
      subst hd6
      have hu6:=denS dn6
      subst hu6
      have s6:=(same_new hl6 (.lst (al.map mkT))).trans (same_new ht6 (.tup (al.map mkT)))
      have e6:(upd (upd H5 l6 (.lst (al.map mkT))) t6 (.tup (al.map mkT))) t6=some (.tup (al.map mkT)):=upd_same
      generalize upd (upd H5 l6 (.lst (al.map mkT))) t6 (.tup (al.map mkT))=H6 at s6 e6 ht ⊢
      have s7:=same_new ht (.tup [u0,u1,.ref t5,.ref t6])
      have s67:=s6.trans s7
      have s47:=s5.trans s67
      exact k (.ref t) _ (s04.trans s47) ⟨t,_,rfl,upd_same,(d0.keepT k4).same s47,(d1.keepT k4).same s47,⟨t5,_,rfl,s67 _ _ e5,(dn5.same s5).same s67⟩,⟨t6,_,rfl,s7 _ _ e6,denS_of _ _⟩,trivial⟩
end
theorem len_in {α:Type} [DecidableEq α]:∀ {xs ys:List α},xs.Nodup→(∀ x∈xs,x∈ys)→xs.length≤ys.length
  | [],_,_,_=>Nat.zero_le _
  | x :: xs,ys,h,s=>by
    obtain ⟨hx,h'⟩:=List.nodup_cons.mp h
    have hm:=s x (.head _)
    have:=len_in (xs:=xs) (ys:=ys.erase x) h' fun y hy=>(List.mem_erase_of_ne (fun e:y=x=>hx (by rw [← e]; exact hy))).mpr (s y (.tail _ hy))
    rw [List.length_erase_of_mem hm] at this
    have:=List.length_pos_of_mem hm
    rw [List.length_cons]
    omega
structure Wk (L R:List Prt) (ks:List Lnk) (al sp:Nms) (i:Nat):Prop where
  mo:∀ p∈L++R,p.2.2.Pairwise (· < ·)∧p.2.2.length≤60∧p.2.1.length≤1000∧p.1.length≤1000
  nd:((L++R).map (·.1)).Nodup
  lL:L.length≤12+i
  lR:R.length≤12+i
  sn:sp.Nodup
  sl:46≤sp.length+i
  su:sp.length≤70
  sm:∀ x∈sp,x.length≤1000
  sd:∀ x∈sp,x ∉ (L++R).map (·.1)
structure Wf (ks:List Lnk) (al:Nms):Prop where
  gl:∀ k∈ks,GoodL k
  up:ks.Pairwise fun a b=>dlt (linkD a) (linkD b)=true
  lk:ks.length≤60
  kn:∀ k∈ks,k.1.length≤60∧k.2.1.length≤60∧k.2.2.2.1.length≤60∧k.2.2.2.2.length≤60
  ga:GoodN al
  la:al.length≤60
theorem Wk.tell {L R:List Prt} {ks:List Lnk} {al sp:Nms} {i:Nat} (h:Wk L R ks al sp i) (f:Wf ks al) (hi:i≤40):Tell L R ks al:=⟨fun p hp=>⟨(h.mo p hp).1,(h.mo p hp).2.1⟩,by have:=h.lL; omega,by have:=h.lR; omega,f.gl,f.up,f.lk,f.kn,f.ga,f.la⟩
theorem Wk.sm' {L R:List Prt} {ks:List Lnk} {al sp:Nms} {i:Nat} (h:Wk L R ks al sp i) (hi:i≤40):SmB L R:=⟨by have:=h.lL; omega,by have:=h.lR; omega,fun p hp=>by have:=(h.mo p hp).2.1; omega⟩
theorem pl_str (n:Nat) (x:List Nat):Pl n (sD x):=by cases n <;> exact trivial
theorem pl_int (n:Nat) (x:Int):Pl n (.int x):=by cases n <;> exact trivial
theorem pl_mom {n:Nat} {ms:List Int} (h:ms.length≤1000):Pl (n+1) (momD ms):=⟨by rw [List.length_map]; exact h,fun d hd=>by
  obtain ⟨i,_,rfl⟩:=List.mem_map.mp hd
  exact pl_int _ _⟩
theorem pl_names {n:Nat} {ns:Nms} (h:ns.length≤1000):Pl (n+1) (namesD ns):=⟨by rw [List.length_map]; exact h,fun d hd=>by
  obtain ⟨i,_,rfl⟩:=List.mem_map.mp hd
  exact pl_str _ _⟩
theorem pl_part {p:Prt} (h:p.2.2.length≤1000):Pl 2 (partD p):=⟨by show 3≤1000; omega,fun d hd=>by
  simp only [List.mem_cons,List.not_mem_nil,or_false] at hd
  rcases hd with rfl | rfl | rfl
  · exact pl_str _ _
  · exact pl_str _ _
  · exact pl_mom h⟩
theorem pl_link {k:Lnk} (h:k.1.length≤60∧k.2.1.length≤60∧k.2.2.2.1.length≤60∧k.2.2.2.2.length≤60):Pl 3 (linkD k):=⟨by show 4≤1000; omega,fun d hd=>by
  simp only [List.mem_cons,List.not_mem_nil,or_false] at hd
  rcases hd with rfl | rfl | rfl | rfl
  · exact pl_names (by omega)
  · exact pl_names (by omega)
  · exact pl_int _ _
  · refine ⟨by show 2≤1000; omega,fun d hd=>?_⟩
    simp only [List.mem_cons,List.not_mem_nil,or_false] at hd
    rcases hd with rfl | rfl
    · exact pl_mom (by omega)
    · exact pl_mom (by omega)⟩
theorem pl_up:∀ {n:Nat} {d:D},Pl n d→Pl (n+1) d
  | _,.int _,_=>pl_int _ _
  | n,.str _,_=>by cases n <;> exact trivial
  | n+1,.tup ds,h=>⟨h.1,fun d hd=>pl_up (h.2 d hd)⟩
  | 0,.tup _,h=>h.elim
  | n,.non,h=>by cases n <;> exact h.elim
  | n,.bl _,h=>by cases n <;> exact h.elim
theorem pl_book {L R:List Prt} {ks:List Lnk} {al:Nms} (h:Tell L R ks al):Pl 5 (bookD L R ks al):=⟨by show 4≤1000; omega,fun d hd=>by
  simp only [List.mem_cons,List.not_mem_nil,or_false] at hd
  have h1:=h.lL
  have h2:=h.lR
  have h3:=h.lk
  have h4:=h.la
  rcases hd with rfl | rfl | rfl | rfl
  · refine ⟨by rw [List.length_map]; omega,fun d hd=>?_⟩
    obtain ⟨p,hp,rfl⟩:=List.mem_map.mp hd
    exact pl_up (pl_part (by have:=(h.mo p (List.mem_append_left _ hp)).2; omega))
  · refine ⟨by rw [List.length_map]; omega,fun d hd=>?_⟩
    obtain ⟨p,hp,rfl⟩:=List.mem_map.mp hd
    exact pl_up (pl_part (by have:=(h.mo p (List.mem_append_right _ hp)).2; omega))
  · refine ⟨by rw [List.length_map]; omega,fun d hd=>?_⟩
    obtain ⟨k,hk,rfl⟩:=List.mem_map.mp hd
    exact pl_link (h.kn k hk)
  · exact pl_names (by omega)⟩
theorem filt_one {α:Type} [DecidableEq α] {p:α→Bool} {x:α}:∀ {xs:List α},xs.Nodup→(∀ z∈xs,p z=false→z=x)→xs.length≤(xs.filter p).length+1
  | [],_,_=>Nat.zero_le _
  | a :: xs,h,hp=>by
    obtain ⟨ha,hn⟩:=List.nodup_cons.mp h
    by_cases e:p a=true
    · rw [List.filter_cons_of_pos e,List.length_cons,List.length_cons]
      have:=filt_one hn fun z hz=>hp z (.tail _ hz)
      omega
    · have ea:a=x:=hp a (.head _) (Bool.eq_false_iff.mpr e)
      rw [List.filter_cons_of_neg e,List.length_cons]
      have:xs.filter p=xs:=List.filter_eq_self.mpr fun z hz=>by
        cases q:p z with
        | true=>rfl
        | false=>exact absurd (by rw [ea,← hp z (.tail _ hz) q]; exact hz) ha
      rw [this]
      omega
def sel {α:Type}:Option Nat→α→α→α
  | none,_,b=>b
  | some _,a,_=>a
structure Dd (C:Nat→Addr) (d lo:Addr) (M:Md) (L R:List Prt) (ks:List Lnk) (al:Nms) (H:Hp) (pd:Addr) (o:Option Nat) (L' R':List Prt):Prop where
  le:∀ e,o=some e→e≤2
  dn:∀ (v:V) (Q:VK) (E:XK) (H2:Hp),(∀ (b:Addr) (vs:List V),H b=some (.tup vs)→H2 b=some (.tup vs))→Den H2 v (bookD L R ks al)→(o=none→∀ (u:V) (H3:Hp),Same H2 H3→Den H3 u (bookD L' R' ks al)→Q u H3)→(∀ e,o=some e→Thrown (C e) H2 E)→spDone C [v,.ref pd] H2 Q E
  du:∀ (Q:VK) (E:XK) (H2:Hp),(∀ (b:Addr) (vs:List V),H b=some (.tup vs)→H2 b=some (.tup vs))→MdAt [d,lo] H2 M L R ks al→(∀ a∈[d,lo],∃ o,H2 a=some o)→(∀ e,o=some e→∀ H3,Same H2 H3→Q (.str (errS (some e))) H3)→(o=none→∀ H3,Keep [M.l0,M.l1,M.dt,M.dw] H2 H3→MdAt [d,lo] H3 M L' R' ks al→Q (.str (errS none)) H3)→spDo [.ref M.m,.ref pd] H2 Q E
  mo:o=none→∀ p∈L'++R',p∈L++R∨(p.2.2.Pairwise (· < ·)∧p.2.2.length≤60∧p.2.1.length≤1000∧p.1.length≤1000)
  nd:o=none→((L'++R').map (·.1)).Nodup
  ll:o=none→L'.length≤L.length+1∧R'.length≤R.length+1
  nm:o=none→∃ x,∀ z∈(L'++R').map (·.1),z=x∨z∈(L++R).map (·.1)
theorem ws_len {L R Z:List Prt} {n:Nat} {c:Nat} (h:Z.length≤(sdP n L R).length+c):(withSide n L R Z).1.length≤L.length+c∧(withSide n L R Z).2.length≤R.length+c:=by
  unfold withSide sdP at *
  split at h
  · rw [if_pos ‹_›]
    exact ⟨h,by show R.length≤_; omega⟩
  · rw [if_neg ‹_›]
    exact ⟨by show L.length≤_; omega,h⟩
theorem ws_perm {L R Z:List Prt} {n:Nat} {ex:List Prt} (h:Z.Perm (ex++sdP n L R)):((withSide n L R Z).1++(withSide n L R Z).2).Perm (ex++(L++R)):=by
  unfold withSide sdP at *
  split at h
  · rw [if_pos ‹_›]
    refine (h.append_right R).trans ?_
    rw [List.append_assoc]
  · rw [if_neg ‹_›]
    refine (h.append_left L).trans ?_
    rw [← List.append_assoc,← List.append_assoc]
    exact (List.perm_append_comm).append_right R
theorem ins_perm (Z:List Prt) (b:List Nat) (q:Prt):(insP Z b q).Perm (q :: Z):=by
  unfold insP
  refine List.perm_middle.trans ?_
  rw [List.take_append_drop]
theorem erase_perm {Z:List Prt} {j:Nat} (hj:j < Z.length):Z.Perm (Z[j] :: Z.eraseIdx j):=by
  rw [List.eraseIdx_eq_take_drop_succ]
  conv=>lhs; rw [← List.take_append_drop j Z,List.drop_eq_getElem_cons hj]
  exact List.perm_middle
theorem mk_dd_put {C:Nat→Addr} {d lo:Addr} {M:Md} {L R:List Prt} {ks:List Lnk} {al:Nms} {H:Hp} {pd:Addr} {t:Int} {n:Nat} {b x tx:List Nat} (hd:H pd=some (.tup [.str WPUT,.int t,.int (n:Nat),mkT b,mkT x,mkT tx])) (hn:n≤1) (hb:b.length≤1000) (hx:x.length≤1000) (ht:tx.length≤400) (hs:SmB L R) (hl:(L++R).length≤200) (hnd:((L++R).map (·.1)).Nodup) :
    Dd C d lo M L R ks al H pd (putE L R n b x) (withSide n L R (insP (sdP n L R) b (x,tx,[t]))).1 (withSide n L R (insP (sdP n L R) b (x,tx,[t]))).2:=by
  have hperm:((withSide n L R (insP (sdP n L R) b (x,tx,[t]))).1++(withSide n L R (insP (sdP n L R) b (x,tx,[t]))).2).Perm ((x,tx,[t]) :: (L++R)):=ws_perm (ex:=[(x,tx,[t])]) (ins_perm _ _ _)
  refine ⟨fun e he=>?_,fun v Q E H2 s2 dv k1 k2=>.inl ⟨v,pd,t,n,b,x,tx,L,R,ks,al,rfl,dv,s2 _ _ hd,hn,hb,hx,hs,k1,k2⟩,fun Q E H2 s2 hM hS k1 k2=>.inl ⟨[d,lo],M,L,R,ks,al,pd,t,n,b,x,tx,rfl,hM,hS,s2 _ _ hd,hn,hl,k1,k2⟩,fun _ p hp=>?_,fun he=>?_,fun _=>ws_len (by rw [len_ins]; exact Nat.le_refl _),fun _=>⟨x,fun z hz=>?_⟩⟩
  · unfold putE placeE at he
    split at he
    · split at he
      · cases he; omega
      · cases he
    · split at he
      · split at he
        · split at he
          · cases he; omega
          · cases he
        · cases he; omega
      · cases he; omega
  · rcases List.mem_cons.mp (hperm.mem_iff.mp hp) with h | h
    · rw [h]
      exact .inr ⟨List.pairwise_singleton _ _,by show 1≤60; omega,by show tx.length≤1000; omega,hx⟩
    · exact .inl h
  · have hnot:x ∉ (L++R).map (·.1):=fun z=>by
      unfold putE at he
      rw [partN_mem,if_pos (decide_eq_true z)] at he
      cases hq:placeE L R n b <;> rw [hq] at he <;> cases he
    refine ((hperm.map (·.1)).nodup_iff).mpr ?_
    rw [List.map_cons]
    exact List.nodup_cons.mpr ⟨hnot,hnd⟩
  · rcases List.mem_cons.mp ((hperm.map (·.1)).mem_iff.mp hz) with h | h
    · exact .inl h
    · exact .inr h
theorem move_le {L R:List Prt} {x b:List Nat} {e:Nat} (h:moveE L R x b=some e):e≤2:=by
  unfold moveE placeE at h
  split at h
  · split at h
    · split at h
      · cases h; omega
      · cases h
    · split at h
      · split at h
        · split at h
          · cases h; omega
          · cases h
        · cases h; omega
      · cases h; omega
  · cases h; omega
theorem mk_dd_move {C:Nat→Addr} {d lo:Addr} {M:Md} {L R:List Prt} {ks:List Lnk} {al:Nms} {H:Hp} {pd:Addr} {t:Int} {b x:List Nat} (hd:H pd=some (.tup [.str WMOVE,.int t,mkT x,mkT b])) (hb:b.length≤1000) (hx:x.length≤1000) (hs:SmB L R) (hl:(L++R).length≤200) (hnd:((L++R).map (·.1)).Nodup) :
    ∃ L' R',Dd C d lo M L R ks al H pd (moveE L R x b) L' R':=by
  cases hq:partN (L++R) x with
  | none =>
    have he:moveE L R x b=some 0:=by unfold moveE; rw [hq,if_neg (by simp)]
    refine ⟨L,R,fun e h=>move_le h,fun v Q E H2 s2 dv k1 k2=>.inr ⟨v,pd,t,b,x,L,R,ks,al,rfl,dv,s2 _ _ hd,hb,hx,hs,fun z=>?_,k2⟩,fun Q E H2 s2 hM hS k1 k2=>.inr ⟨[d,lo],M,L,R,ks,al,pd,t,b,x,rfl,hM,s2 _ _ hd,hl,hnd,k1,fun z=>?_⟩,fun z=>?_,fun z=>?_,fun z=>?_,fun z=>?_⟩ <;> (rw [he] at z; cases z)
  | some q =>
    obtain ⟨hqm,hqx⟩:=partN_some hq
    have hso:(partN (L++R) x).isSome=true:=by rw [hq]; rfl
    obtain ⟨hj,e1,e2⟩:=find_lt (mem_side hso)
    have hoe:=out_erase hj (nodup_sd hnd) e1
    have hZq:(sdP (sideP L x) L R)[(sdP (sideP L x) L R).findIdx fun p=>decide (p.1=x)]=q:=by
      have h1:=mem_sd (List.getElem_mem hj)
      have hn:=hnd
      rw [List.nodup_iff_pairwise_ne,List.pairwise_map] at hn
      by_cases z:(sdP (sideP L x) L R)[(sdP (sideP L x) L R).findIdx fun p=>decide (p.1=x)]=q
      · exact z
      · obtain ⟨i,hi⟩:=List.mem_iff_getElem?.mp h1
        obtain ⟨j,hj'⟩:=List.mem_iff_getElem?.mp hqm
        obtain ⟨hi1,hi2⟩:=List.getElem?_eq_some_iff.mp hi
        obtain ⟨hj1,hj2⟩:=List.getElem?_eq_some_iff.mp hj'
        rw [List.pairwise_iff_getElem] at hn
        rcases Nat.lt_trichotomy i j with h | h | h
        · exact absurd (by rw [hi2,hj2,e1,hqx]) (hn i j hi1 hj1 h)
        · subst h
          exact absurd (hi2.symm.trans hj2) z
        · exact absurd (by rw [hi2,hj2,e1,hqx]) (hn j i hj1 hi1 h)
    have hpZ:(insP (outP (sdP (sideP L x) L R) x) b q).Perm ([]++sdP (sideP L x) L R):=by
      refine (ins_perm _ _ _).trans ?_
      rw [hoe]
      have:=erase_perm hj
      rw [hZq] at this
      exact this.symm
    have hperm:=ws_perm hpZ
    have hle:(insP (outP (sdP (sideP L x) L R) x) b q).length≤(sdP (sideP L x) L R).length+1:=by
      rw [hpZ.length_eq]
      exact Nat.le_succ _
    refine ⟨_,_,fun e h=>move_le h,fun v Q E H2 s2 dv k1 k2=>.inr ⟨v,pd,t,b,x,L,R,ks,al,rfl,dv,s2 _ _ hd,hb,hx,hs,fun z q' hq'=>?_,k2⟩,fun Q E H2 s2 hM hS k1 k2=>.inr ⟨[d,lo],M,L,R,ks,al,pd,t,b,x,rfl,hM,s2 _ _ hd,hl,hnd,k1,fun z q' hq'=>?_⟩,fun _ p hp=>.inl (hperm.mem_iff.mp hp),fun _=>((hperm.map (·.1)).nodup_iff).mpr hnd,fun _=>ws_len hle,fun _=>⟨x,fun z hz=>.inr ((hperm.map (·.1)).mem_iff.mp hz)⟩⟩
    · rw [hq] at hq'
      rw [← Option.some.inj hq']
      exact k1 z
    · rw [hq] at hq'
      rw [← Option.some.inj hq']
      exact k2 z
def spModel:Sp:=fun vs H Q _=>∃ (S:List Addr) (v:V) (L R:List Prt) (ks:List Lnk) (al:Nms),vs=[v]∧Den H v (bookD L R ks al)∧(∀ a∈S,∃ o,H a=some o)∧L.length≤60∧R.length≤60∧ks.length≤900∧((L++R).map (·.1)).Nodup ∧
  ∀ (M:Md) (H':Hp),Same H H'→MdAt S H' M L R ks al→Q (.ref M.m) H'
def md0 (dt dw:Addr):List (Key × V):=[(Sum.inr "text",.ref dt),(Sum.inr "when",.ref dw)]
def md1 (dt dw lr:Addr):List (Key × V):=[(Sum.inr "text",.ref dt),(Sum.inr "when",.ref dw),(Sum.inr "rows",.ref lr)]
theorem sne1:Str.ofString "when" ≠ Str.ofString "text":=by decide +kernel
theorem md_merge (dt dw:Addr):mergeK [] (md0 dt dw)=md0 dt dw:=by
  unfold md0
  simp [mergeK,putK,sne1,Ne.symm sne1]
theorem put_new {kvs:List (Key × V)} {k:Key} {v:V} (h:∀ kv∈kvs,kv.1≠k):putK kvs k v=kvs++[(k,v)]:=by
  unfold putK
  rw [if_neg]
  intro z
  rw [List.any_eq_true] at z
  obtain ⟨kv,h1,h2⟩:=z
  exact h kv h1 (of_decide_eq_true h2)
theorem v1_text (dt dw lr:Addr):valV (md1 dt dw lr) (Sum.inr "text" : Key)=some (V.ref dt):=valV_pos rfl
theorem v1_when (dt dw lr:Addr):valV (md1 dt dw lr) (Sum.inr "when" : Key)=some (V.ref dw):=(valV_neg mk1).trans (valV_pos rfl)
theorem g1_text {H:Hp} {m dt dw lr:Addr} (h:H m=some (.dK (md1 dt dw lr))):DGet H m (.str "text") (some (.ref dt)):=by
  rw [← v1_text dt dw lr]
  exact DGet.k (k:=(Sum.inr _:Key)) h
theorem g1_when {H:Hp} {m dt dw lr:Addr} (h:H m=some (.dK (md1 dt dw lr))):DGet H m (.str "when") (some (.ref dw)):=by
  rw [← v1_when dt dw lr]
  exact DGet.k (k:=(Sum.inr _:Key)) h
def md2 (dt dw lr lk:Addr):List (Key × V):=[(Sum.inr "text",.ref dt),(Sum.inr "when",.ref dw),(Sum.inr "rows",.ref lr),(Sum.inr "links",.ref lk)]
theorem put_links (dt dw lr lk:Addr):putK (md1 dt dw lr) (Sum.inr "links" : Key) (.ref lk)=md2 dt dw lr lk:=by
  rw [put_new]
  · rfl
  · intro kv h
    unfold md1 at h
    simp only [List.mem_cons,List.not_mem_nil,or_false] at h
    rcases h with rfl | rfl | rfl
    · exact mk3
    · exact mk6
    · exact mk8
theorem put_alone (M:Md):putK (md2 M.dt M.dw M.lr M.lk) (Sum.inr "alone" : Key) (.ref M.la)=mdK M:=by
  rw [put_new]
  · rfl
  · intro kv h
    unfold md2 at h
    simp only [List.mem_cons,List.not_mem_nil,or_false] at h
    rcases h with rfl | rfl | rfl | rfl
    · exact mk4
    · exact mk7
    · exact mk9
    · exact mk0
theorem v2_links (dt dw lr lk:Addr):valV (md2 dt dw lr lk) (Sum.inr "links" : Key)=some (V.ref lk):=(valV_neg mk3).trans ((valV_neg mk6).trans ((valV_neg mk8).trans (valV_pos rfl)))
theorem g2_links {H:Hp} {m dt dw lr lk:Addr} (h:H m=some (.dK (md2 dt dw lr lk))):DGet H m (.str "links") (some (.ref lk)):=by
  rw [← v2_links dt dw lr lk]
  exact DGet.k (k:=(Sum.inr _:Key)) h
def two2 (k:Lnk):Nat→List Int
  | 0=>k.2.2.2.1
  | _=>k.2.2.2.2
structure MdN (H0:Hp) (H:Hp) (m dt dw lr l0 l1:Addr) (L R:List Prt):Prop where
  er:H lr=some (.lst [.ref l0,.ref l1])
  e0:H l0=some (.lst (nmsOf L))
  e1:H l1=some (.lst (nmsOf R))
  nd:[m,dt,dw,lr,l0,l1].Nodup
  fr:∀ a∈[m,dt,dw,lr,l0,l1],H0 a=none
theorem MdN.keep {H0 H H':Hp} {m dt dw lr l0 l1:Addr} {L R:List Prt} (h:MdN H0 H m dt dw lr l0 l1 L R) (k:∀ (a:Addr) (vs:List V),H a=some (.lst vs)→H' a=some (.lst vs)):MdN H0 H' m dt dw lr l0 l1 L R:=⟨k _ _ h.er,k _ _ h.e0,k _ _ h.e1,h.nd,h.fr⟩
section
variable {P:Program} {w:World} {K:PySem.W.Frag} {mg:Str→Option Value} {base:Heap}
theorem scModel:FnScope ["_law_book_here", "_law_model_here", "_law_part", "_law_ones", "_law_others", "_law_told", "_law_lost", "_law_link"] ["_law_book_here"] (defScope sModel):=⟨rfl,rfl,rfl,by decide +kernel,rfl,by decide +kernel,by decide +kernel⟩
theorem c_model (h:Has K mg "_law_model" sModel ["_law_book_here"]) (m_list:mg "list" = none):Cal P w K mg base "_law_model" 1 ["_law_book_here"] spModel:=by
  refine h.mk' scModel (fun vs H Q E hs=>?_) (fun f cdv A outer s H vs Q E hr hs=>?_)
  · obtain ⟨S,v,L,R,ks,al,rfl,_⟩:=hs
    rfl
  obtain ⟨S,v,L,R,ks,al,rfl,hv,hS,hL,hR,hK,hnd,k⟩:=hs
  refine qex ⟨_,(qss_cons (qs_set (i:=1) scModel.nd rfl (Or.inl rfl) (qe_disp (qps_cons qe_str ⟨pe_dnewK⟩ (qps_cons qe_str ⟨pe_dnewK⟩ qps_nil)) rfl rfl (by simp) (by decide)))
    (qss_cons ⟨(ps_dput (hu_of hr) (pv 1) pe_str (pe_compL ["_law_book_here", "_law_model_here", "_law_part", "_law_ones", "_law_others", "_law_told", "_law_lost", "_law_link"] (defScope sModel) ["_law_side_here"] [none] rfl rfl rfl (pi_tup (pe_slice sl_tupW (pv 0) po_none (po_some pe_int))) rfl (by decide +kernel) (by decide +kernel) (by decide +kernel) (by decide +kernel) (hg:=fun cl C s H ex pn E=>(pg_name (i:=0) (by decide +kernel:(["_law_side_here"]:List Str).Nodup) rfl (Or.inl rfl))) (ht:=fun cl C s H ex pn E=>pifs_nil) (he:=fun cl C s H ex pn E=>(pe_compL ["_law_side_here"] _ ["_law_part"] [none] rfl rfl rfl (pi_tupK (K:=K) rfl (pv 0)) rfl (by decide +kernel) (by decide +kernel) (noFree (by decide +kernel)) (by decide +kernel) (hg:=fun cl C s H ex pn E=>(pg_name (i:=0) (by decide +kernel:(["_law_part"]:List Str).Nodup) rfl (Or.inl rfl))) (ht:=fun cl C s H ex pn E=>pifs_nil) (he:=fun cl C s H ex pn E=>(pe_ix (ix_tupK (K:=K) rfl) (pv 0) pe_int (fun _ _=>rfl)))))) rfl)⟩
    (qss_cons ⟨(ps_for PassesOwn.never rfl (pi_tup (pe_op op_catT2 (pe_ix ix_tup (pv 0) pe_int (fun _ _=>rfl)) (pe_ix ix_tup (pv 0) pe_int (fun _ _=>rfl)))) (pg_name (i:=2) scModel.nd rfl (Or.inl rfl))
      (pss_cons (ps_dput (hu_of hr) (pe_dget (hu_of hr) (pv 1) pe_str (fun _ _=>rfl)) (pe_ix ix_tup (pv 2) pe_int (fun _ _=>rfl)) (pe_ix ix_tup (pv 2) pe_int (fun _ _=>rfl)) rfl)
    (pss_one (ps_dput (hu_of hr) (pe_dget (hu_of hr) (pv 1) pe_str (fun _ _=>rfl)) (pe_ix ix_tup (pv 2) pe_int (fun _ _=>rfl)) (pe_callTy call_list_of rfl m_list boot_list (pa_cons (pe_ix ix_tup (pv 2) pe_int (fun _ _=>rfl)) pa_nil)) rfl))))⟩
    (qss_cons ⟨(ps_dput (hu_of hr) (pv 1) pe_str (pe_lst pa_nil) rfl)⟩
    (qss_cons ⟨(ps_for PassesOwn.never rfl (pi_tup (pe_ix ix_tup (pv 0) pe_int (fun _ _=>rfl))) (pg_tup (n:=4) rfl (pgs_cons (pg_name (i:=3) scModel.nd rfl (Or.inl rfl)) (pgs_cons (pg_name (i:=4) scModel.nd rfl (Or.inl rfl)) (pgs_cons (pg_name (i:=5) scModel.nd rfl (Or.inl rfl)) (pgs_cons (pg_name (i:=6) scModel.nd rfl (Or.inl rfl)) pgs_nil)))))
      (pss_cons (ps_set (i:=7) scModel.nd rfl (Or.inl rfl) (pe_lst (pa_cons (pe_callTy call_list_of rfl m_list boot_list (pa_cons (pv 3) pa_nil)) (pa_cons (pe_callTy call_list_of rfl m_list boot_list (pa_cons (pv 4) pa_nil)) (pa_cons (pv 5) pa_nil)))))
    (pss_one (ps_expr (pe_bm PySem.F.plainAttrs_list PySem.F.slot_list_append PySem.F.type_list_append mt_append (pe_dget (hu_of hr) (pv 1) pe_str (fun _ _=>rfl)) (pa_cons (pe_op op_cat (pv 7) (pe_compL ["_law_book_here", "_law_model_here", "_law_part", "_law_ones", "_law_others", "_law_told", "_law_lost", "_law_link"] (defScope sModel) ["_law_one"] [none] rfl rfl rfl (pi_tup (pv 6)) rfl (by decide +kernel) (by decide +kernel) (by decide +kernel) (by decide +kernel) (hg:=fun cl C s H ex pn E=>(pg_name (i:=0) (by decide +kernel:(["_law_one"]:List Str).Nodup) rfl (Or.inl rfl))) (ht:=fun cl C s H ex pn E=>pifs_nil) (he:=fun cl C s H ex pn E=>(pe_callTy (call_list_ofK (K:=K) rfl) rfl m_list boot_list (pa_cons (pv 0) pa_nil))))) pa_nil))))))⟩
    (qss_cons ⟨(ps_dput (hu_of hr) (pv 1) pe_str (pe_callTy call_list_of rfl m_list boot_list (pa_cons (pe_ix ix_tup (pv 0) pe_int (fun _ _=>rfl)) pa_nil)) rfl)⟩
    (qss_one ⟨(ps_ret (pv 1))⟩))))))),?_⟩
  obtain ⟨p,pl,pr,pk,pa,ls,rs,us,rfl,a1,a2,a3,a4,a5,a6,a7,a8⟩:=den_book hv
  have hl1:=a3.len
  have hl2:=a5.len
  have hl3:=a7.len
  rw [List.length_map] at hl1 hl2 hl3
  have at_:∀ {j:Nat} {y:V},[V.ref pl,.ref pr,.ref pk,.ref pa][j]?=some y→atI [V.ref pl,.ref pr,.ref pk,.ref pa] (j:Nat)=some y:=fun h=>atI_nat h
  refine seqP (fun σ H'=>∃ (m dt dw:Addr),σ=[some (.ref p),some (.ref m),none,none,none,none,none,none]∧Same H H'∧H' m=some (.dK (md0 dt dw))∧H' dt=some (.dK [])∧H' dw=some (.dK [])∧[m,dt,dw].Nodup∧∀ a∈[m,dt,dw],H a=none) (fun N hN=>?_) ?_
  · intro m hm
    intro dt hdt
    intro dw hdw
    have n1:m≠dt:=ne_of_none upd_same hdt
    have s2:=same_new hdt (.dK [])
    have n2:m≠dw:=ne_of_none (s2 _ _ upd_same) hdw
    have n3:dt≠dw:=ne_of_none upd_same hdw
    have s3:=(same_new hm (.dK [])).trans (s2.trans (same_new hdw (.dK [])))
    have em:(upd (upd (upd H m (.dK [])) dt (.dK [])) dw (.dK [])) m=some (.dK []):=by rw [upd_ne n2,upd_ne n1]; exact upd_same
    have et:(upd (upd (upd H m (.dK [])) dt (.dK [])) dw (.dK [])) dt=some (.dK []):=by rw [upd_ne n3]; exact upd_same
    have ew:(upd (upd (upd H m (.dK [])) dt (.dK [])) dw (.dK [])) dw=some (.dK []):=upd_same
    have f2:H dt=none:=(same_new hm (.dK [])).free hdt
    have f3:H dw=none:=((same_new hm (.dK [])).trans s2).free hdw
    generalize upd (upd (upd H m (.dK [])) dt (.dK [])) dw (.dK [])=H1 at s3 em et ew ⊢
    refine ⟨em,md0 dt dw,rfl,(by show 2≤15; decide),hN _ _ ⟨m,dt,dw,rfl,?_,?_,by rw [upd_ne (Ne.symm n1)]; exact et,by rw [upd_ne (Ne.symm n2)]; exact ew,?_,?_⟩⟩
    · exact fun c o e=>by rw [upd_ne (ne_of_none e hm)]; exact s3 c o e
    · rw [upd_same,md_merge]
    · simp [n1,n2,n3]
    · intro a ha
      simp only [List.mem_cons,List.not_mem_nil,or_false] at ha
      rcases ha with rfl | rfl | rfl
      · exact hm
      · exact f2
      · exact f3
  rintro σ H1 ⟨m,dt,dw,rfl,s1,em,et,ew,nd1,fr1⟩
  refine seqP (fun σ H'=>∃ (lr l0 l1:Addr),σ=[some (.ref p),some (.ref m),none,none,none,none,none,none]∧Same H H'∧H' m=some (.dK (md1 dt dw lr))∧H' dt=some (.dK [])∧H' dw=some (.dK [])∧MdN H H' m dt dw lr l0 l1 L R) (fun N hN=>?_) ?_
  · refine ⟨_,rfl,_,rfl,p,_,rfl,s1 _ _ a1,fun q2 H2 s2 e2=>?_⟩
    have e2:H2 q2=some (.tup [.ref pl,.ref pr]):=e2
    have s02:=s1.trans s2
    refine ⟨q2,rfl,⟨_,SqT.of e2⟩,fun lr hlr=>?_⟩
    have nlr:∀ {a:Addr} {o:HO},H2 a=some o→a≠lr:=fun e=>ne_of_none e hlr
    refine comp_byH (J:=Itt K q2) (l:=lr) 2 (fun i σ' H'=>∃ (v0:Option V) (as:List Addr),σ'=[v0]∧Same H2 H'∧H' lr=some (.lst (as.map V.ref))∧as.length=i∧as.Nodup∧(∀ a∈as,H2 a=none∧a≠lr)∧∀ (j:Nat) (a:Addr),as[j]?=some a→H' a=some (.lst (nmsOf (sdP j L R)))) ⟨none,[],rfl,same_new hlr _,upd_same,rfl,.nil,(fun a h=>nomatch h),fun j a h=>nomatch h⟩ ?_ ?_
    rotate_left
    · rintro i σ' H3 hi ⟨v0,as,rfl,s3,e3,hal,hnd3,hfr,hrow⟩
      obtain ⟨hi1,pq,us',hat,hpq,dpq⟩:i≤1∧∃ (pq:Addr) (us':List V),[V.ref pl,V.ref pr][i]?=some (.ref pq)∧H pq=some (.tup us')∧DenL H us' ((sdP i L R).map partD):=by
        match i,hi with
        | 0,_=>exact ⟨by omega,pl,ls,rfl,a2,a3⟩
        | 1,_=>exact ⟨by omega,pr,rs,rfl,a4,a5⟩
      refine ⟨⟨_,_,SqT.of (s3 _ _ e2),hat⟩,?_⟩
      rintro N2 hN2 y H4 ⟨rfl,hy⟩
      have ey:y=.ref pq:=Option.some.inj ((hy _ (SqT.of (s3 _ _ e2))).symm.trans hat)
      subst ey
      have s03:=s02.trans s3
      have hpq3:=s03 _ _ hpq
      have hul:=dpq.len
      rw [List.length_map] at hul
      refine gN (yesT (iteT ⟨_,rfl,pq,rfl,⟨_,SqT.of hpq3⟩,fun li hli=>?_⟩))
      have nli:li≠lr:=(ne_of_none e3 hli).symm
      have hli2:H2 li=none:=s3.free hli
      have hlia:li ∉ as:=fun z=>by
        obtain ⟨j,hj⟩:=List.mem_iff_getElem?.mp z
        rw [hrow j li hj] at hli
        cases hli
      refine comp_byH (J:=Itt K pq) (l:=li) us'.length (fun z σ'' H''=>∃ v:Option V,σ''=[v]∧Same H4 H''∧H'' li=some (.lst (nmsOf ((sdP i L R).take z)))) ⟨none,rfl,same_new hli _,upd_same⟩ ?_ ?_
      · rintro σ'' H5 ⟨v5,rfl,s5,e5⟩
        rw [hul,List.take_length] at e5
        refine ⟨⟨_,SqT.of (s5 _ _ hpq3),Nat.le_refl _⟩,?_⟩
        have e35:=s5 _ _ e3
        refine ⟨_,e35,small1000 (by rw [List.length_map]; omega),hN2 _ _ ⟨_,as++[li],rfl,same_updN (s3.trans s5) hlr,by rw [upd_same,List.map_append]; rfl,by rw [List.length_append,hal]; rfl,?_,fun a ha=>?_,fun j a hj=>?_⟩⟩
        · rw [List.nodup_append]
          refine ⟨hnd3,by simp,fun x hx y hy z=>?_⟩
          rw [List.mem_singleton.mp hy] at z
          exact hlia (by rw [← z]; exact hx)
        · rcases List.mem_append.mp ha with h | h
          · exact hfr a h
          · rw [List.mem_singleton.mp h]
            exact ⟨hli2,nli⟩
        · rcases Nat.lt_or_ge j as.length with h | h
          · rw [List.getElem?_append_left h] at hj
            rw [upd_ne (hfr a (List.mem_of_getElem? hj)).2]
            exact s5 _ _ (hrow j a hj)
          · rw [List.getElem?_append_right h] at hj
            have hj0:j - as.length=0:=by
              have:=(List.getElem?_eq_some_iff.mp hj).1
              rw [List.length_singleton] at this
              omega
            rw [hj0] at hj
            have ea:li=a:=Option.some.inj hj
            have ej:j=i:=by omega
            rw [← ea,ej,upd_ne nli]
            exact e5
      · rintro z σ'' H5 hz ⟨v5,rfl,s5,e5⟩
        have hzl:z < (sdP i L R).length:=by omega
        refine ⟨⟨_,_,SqT.of (s5 _ _ hpq3),ex_at hz⟩,?_⟩
        rintro N3 hN3 y H6 ⟨rfl,hy⟩
        have ey:y=us'[z]:=Option.some.inj ((hy _ (SqT.of (s5 _ _ hpq3))).symm.trans (ex_at hz))
        have dy:Den H us'[z] (partD (sdP i L R)[z]):=at_of dpq (ex_at hz) (by rw [List.getElem?_map,ex_at hzl]; rfl)
        have htk:=take_one (ex_at hzl)
        rw [← ey] at dy
        generalize (sdP i L R)[z]=r at dy htk
        obtain ⟨c,pm,rfl,hc,hpm⟩:=den_part (dy.same (s03.trans s5))
        refine gN (yesT (iteT ⟨_,rfl,c,_,_,_,rfl,rfl,SqT.of hc,atI_zero _ _,_,e5,small1000 (by unfold nmsOf sdP; rw [List.length_map,List.length_take]; split <;> omega),hN3 _ _ ⟨_,rfl,same_updN s5 hli,?_⟩⟩))
        rw [upd_same,htk]
        unfold nmsOf
        rw [List.map_append]
        rfl
    rintro σ' H3 ⟨v0,as,rfl,s3,e3,hal,hnd3,hfr,hrow⟩
    obtain ⟨l0,l1,rfl⟩:∃ l0 l1,as=[l0,l1]:=by
      match as,hal with
      | [l0,l1],_=>exact ⟨l0,l1,rfl⟩
    have s23:=s2.trans s3
    have hm3:=s23 _ _ em
    have sne:∀ kv∈md0 dt dw,kv.1≠(Sum.inr "rows" : Key):=fun kv h=>by
      unfold md0 at h
      simp only [List.mem_cons,List.not_mem_nil,or_false] at h
      rcases h with rfl | rfl
      · exact mk2
      · exact mk5
    refine ⟨⟨_,SqT.of (s3 _ _ e2),Nat.le_refl _⟩,_,rfl,m,_,rfl,DPut.k (k:=(Sum.inr "rows" : Key)) hm3 (small1000 (show 2≤1000 by omega)),hN _ _ ⟨lr,l0,l1,rfl,?_,?_,?_,?_,?_⟩⟩
    · exact fun c o e=>by rw [upd_ne (ne_of_none e (fr1 m (by simp)))]; exact (s02.trans s3) c o e
    · rw [upd_same,put_new sne]
      rfl
    · have hne:dt≠m:=by simp only [List.nodup_cons,List.mem_cons,not_or] at nd1; exact Ne.symm nd1.1.1
      rw [upd_ne hne]
      exact s23 _ _ et
    · have hne:dw≠m:=by simp only [List.nodup_cons,List.mem_cons,not_or] at nd1; exact Ne.symm nd1.1.2.1
      rw [upd_ne hne]
      exact s23 _ _ ew
    · have q0:=hfr l0 (.head _)
      have q1:=hfr l1 (.tail _ (.head _))
      have em2:=s2 _ _ em
      have et2:=s2 _ _ et
      have ew2:=s2 _ _ ew
      have nm0:l0≠m:=fun z=>by rw [← z,q0.1] at em2; cases em2
      have nm1:l1≠m:=fun z=>by rw [← z,q1.1] at em2; cases em2
      have nmr:lr≠m:=fun z=>by rw [← z,hlr] at em2; cases em2
      refine ⟨by rw [upd_ne nmr]; exact e3,by rw [upd_ne nm0]; exact hrow 0 l0 rfl,by rw [upd_ne nm1]; exact hrow 1 l1 rfl,?_,?_⟩
      · have t0:dt≠lr:=nlr et2
        have t1:dw≠lr:=nlr ew2
        have t2:dt≠l0:=fun z=>by rw [z,q0.1] at et2; cases et2
        have t3:dt≠l1:=fun z=>by rw [z,q1.1] at et2; cases et2
        have t4:dw≠l0:=fun z=>by rw [z,q0.1] at ew2; cases ew2
        have t5:dw≠l1:=fun z=>by rw [z,q1.1] at ew2; cases ew2
        simp only [List.nodup_cons,List.mem_cons,List.not_mem_nil,or_false,not_or,not_false_eq_true,and_true] at nd1 hnd3 ⊢
        exact ⟨⟨nd1.1.1,nd1.1.2,Ne.symm nmr,Ne.symm nm0,Ne.symm nm1⟩,⟨nd1.2.1,t0,t2,t3⟩,⟨t1,t4,t5⟩,⟨Ne.symm q0.2,Ne.symm q1.2⟩,hnd3.1,trivial,List.nodup_nil⟩
      · intro a ha
        simp only [List.mem_cons,List.not_mem_nil,or_false] at ha
        rcases ha with rfl | rfl | rfl | rfl | rfl | rfl
        · exact fr1 _ (by simp)
        · exact fr1 _ (by simp)
        · exact fr1 _ (by simp)
        · exact s02.free hlr
        · exact s02.free q0.1
        · exact s02.free q1.1
  rintro σ H2 ⟨lr,l0,l1,rfl,s2,em2,et2,ew2,hN2⟩
  have hnd6:=hN2.nd
  simp only [List.nodup_cons,List.mem_cons,List.not_mem_nil,or_false,not_or,not_false_eq_true,and_true] at hnd6
  obtain ⟨⟨m1,m2,m3,m4,m5⟩,⟨t1,t2,t3,t4⟩,⟨w1,w2,w3⟩,⟨r1,r2⟩,l01,_⟩:=hnd6
  clear em et ew s1 nd1 fr1 H1
  refine seqP (fun σ H'=>∃ v2:Option V,σ=[some (.ref p),some (.ref m),v2,none,none,none,none,none]∧Same H H'∧H' m=some (.dK (md1 dt dw lr))∧MdN H H' m dt dw lr l0 l1 L R∧TxAt H' dt (L++R)∧WhAt (l0 :: l1 :: S) H' dw (L++R)) (fun N hN=>?_) ?_
  · refine ⟨_,rfl,p,_,_,_,rfl,rfl,SqT.of (s2 _ _ a1),atI_zero _ _,_,rfl,p,_,_,_,rfl,rfl,SqT.of (s2 _ _ a1),at_ (j:=1) rfl,pl,pr,_,_,rfl,rfl,s2 _ _ a2,s2 _ _ a4,small (by omega),fun q3 H3 s3 e3=>⟨q3,rfl,⟨_,SqT.of e3⟩,?_⟩⟩
    have s03:=s2.trans s3
    have dA:DenL H (ls++rs) ((L++R).map partD):=by
      rw [List.map_append]
      exact denl_app a3 a5
    have hPl:(L++R).length=(ls++rs).length:=by rw [List.length_append,List.length_append,hl1,hl2]
    have hP12:(L++R).length≤120:=by rw [List.length_append]; omega
    refine for_tup (K:=K) (a:=q3) (xs:=ls++rs) (fun i σ H'=>∃ v2:Option V,σ=[some (.ref p),some (.ref m),v2,none,none,none,none,none]∧Same H H'∧H' q3=some (.tup (ls++rs))∧H' m=some (.dK (md1 dt dw lr))∧MdN H H' m dt dw lr l0 l1 L R∧TxAt H' dt ((L++R).take i)∧WhAt (l0 :: l1 :: S) H' dw ((L++R).take i)) ⟨_,rfl,s03,e3,s3 _ _ em2,hN2.keep fun a vs h=>s3 _ _ h,⟨[],s3 _ _ et2,Nat.zero_le _,fun p hp=>by cases hp⟩,⟨[],s3 _ _ ew2,Nat.zero_le _,fun p hp=>by cases hp⟩⟩ ?_ ?_ ?_
    · rintro i σ H4 _ ⟨_,_,_,e4,_⟩
      exact SqT.of e4
    · rintro i y σ H4 hi ⟨v2,rfl,s4,e4,em4,hN4,hT4,hW4⟩
      have hil:i < (L++R).length:=by
        have:=(List.getElem?_eq_some_iff.mp hi).1
        omega
      have dy:Den H y (partD (L++R)[i]):=at_of dA hi (by rw [List.getElem?_map,ex_at hil]; rfl)
      have htk:=take_one (ex_at hil)
      have hnew:∀ r∈(L++R).take i,r.1≠(L++R)[i].1:=fun r hr z=>by
        have hnd':(((L++R).take (i+1)).map (·.1)).Nodup:=hnd.sublist ((List.take_sublist _ _).map _)
        rw [htk,List.map_append,List.nodup_append] at hnd'
        exact hnd'.2.2 r.1 (List.mem_map_of_mem hr) _ (List.mem_map_of_mem (List.mem_singleton_self _)) z
      have hti:((L++R).take i).length=i:=by rw [List.length_take]; omega
      generalize (L++R)[i]=q at dy htk hnew
      obtain ⟨c,pm,rfl,hc0,hpm0⟩:=den_part dy
      obtain ⟨kt,et,hkl,hkt⟩:=hT4.ex
      obtain ⟨kw,ew,hwl,hkw⟩:=hW4.ex
      have hc:=s4 _ _ hc0
      refine hidS fun E1 hE1=>gN ⟨_,rfl,c,_,_,_,rfl,rfl,SqT.of hc,atI_nat (xs:=[mkT q.1,mkT q.2.1,V.ref pm]) (j:=1) rfl,_,rfl,m,_,rfl,g1_text em4,_,rfl,c,_,_,_,rfl,rfl,SqT.of hc,atI_zero _ _,dt,_,rfl,DPut.k (k:=nk q.1) et (small1000 (by omega)),?_⟩
      have b0:But dt H4 (upd H4 dt (.dK (putK kt (nk q.1) (mkT q.2.1)))):=.upd _
      have bt:(upd H4 dt (.dK (putK kt (nk q.1) (mkT q.2.1)))) dt=some (.dK (putK kt (nk q.1) (mkT q.2.1))):=upd_same
      generalize upd H4 dt (.dK (putK kt (nk q.1) (mkT q.2.1)))=H5 at b0 bt
      have kL:∀ (a:Addr) (vs:List V),H4 a=some (.lst vs)→H5 a=some (.lst vs):=fun a vs h=>b0 _ _ h (lst_ne h et)
      have hfd:=hN4.fr dt (by simp)
      have s5:Same H H5:=But.same s4 hfd b0
      have em5:=b0 _ _ em4 m1
      have ew5:=b0 _ _ ew (Ne.symm t1)
      have hc5:=s5 _ _ hc0
      have hpm5:=s5 _ _ hpm0
      refine ⟨_,rfl,c,_,_,_,rfl,rfl,SqT.of hc5,atI_nat (xs:=[mkT q.1,mkT q.2.1,V.ref pm]) (j:=2) rfl,pm,_,rfl,.inr (SqT.of hpm5),fun l hl=>?_⟩
      have s6:=same_new hl (.lst (q.2.2.map V.int))
      have e6:(upd H5 l (.lst (q.2.2.map V.int))) l=some (.lst (q.2.2.map V.int)):=upd_same
      generalize upd H5 l (.lst (q.2.2.map V.int))=H6 at s6 e6 ⊢
      refine ⟨_,rfl,m,_,rfl,g1_when (s6 _ _ em5),_,rfl,c,_,_,_,rfl,rfl,SqT.of (s6 _ _ hc5),atI_zero _ _,dw,_,rfl,DPut.k (k:=nk q.1) (s6 _ _ ew5) (small1000 (by omega)),?_⟩
      have hlT:l ∉ l0 :: l1 :: S:=fun z=>by
        rcases List.mem_cons.mp z with z | z
        · rw [z,kL _ _ hN4.e0] at hl
          cases hl
        · rcases List.mem_cons.mp z with z | z
          · rw [z,kL _ _ hN4.e1] at hl
            cases hl
          · obtain ⟨o,ho⟩:=hS l z
            rw [s5 _ _ ho] at hl
            cases hl
      have kp:∀ (a:Addr) (o:HO),H5 a=some o→a≠dw→(upd H6 dw (.dK (putK kw (nk q.1) (.ref l)))) a=some o:=fun a o h hne=>by
        rw [upd_ne hne]
        exact s6 _ _ h
      refine hE1.n _ _ ⟨_,rfl,fun a o h=>?_,?_,kp _ _ em5 m2,hN4.keep fun a vs h=>kp _ _ (kL _ _ h) (lst_ne h ew),⟨_,kp _ _ bt t1,?_,fun r hr=>?_⟩,⟨_,upd_same,?_,fun r hr=>?_⟩⟩
      · exact kp _ _ (s5 _ _ h) (ne_of_none h (hN4.fr dw (by simp)))
      · exact kp _ _ (b0 _ _ e4 (ne_of e4 et (by intro z; cases z))) (ne_of e4 ew (by intro z; cases z))
      · rw [htk,List.length_append,List.length_singleton]
        have:=putK_len kt (nk q.1) (mkT q.2.1)
        omega
      · rw [valV_put]
        rw [htk] at hr
        rcases List.mem_append.mp hr with h | h
        · rw [if_neg fun z=>hnew r h (nk_inj z)]
          exact hkt r h
        · rw [List.mem_singleton.mp h,if_pos rfl]
      · rw [htk,List.length_append,List.length_singleton]
        have:=putK_len kw (nk q.1) (.ref l)
        omega
      · rw [valV_put]
        rw [htk] at hr
        rcases List.mem_append.mp hr with h | h
        · rw [if_neg fun z=>hnew r h (nk_inj z)]
          obtain ⟨l',x1,x2,x3⟩:=hkw r h
          exact ⟨l',x1,x2,kp _ _ (kL _ _ x3) (lst_ne x3 ew)⟩
        · rw [List.mem_singleton.mp h,if_pos rfl]
          exact ⟨l,rfl,hlT,by rw [upd_ne (Ne.symm (ne_of_none ew5 hl))]; exact e6⟩
    · rintro σ H4 ⟨v2,rfl,s4,e4,em4,hN4,hT4,hW4⟩
      rw [← hPl,List.take_length] at hT4 hW4
      exact hN _ _ ⟨_,rfl,s4,em4,hN4,hT4,hW4⟩
  rintro σ H3 ⟨v2,rfl,s3,em3,hN3,hT3,hW3⟩
  clear s2 em2 et2 ew2 hN2 H2
  obtain ⟨kt,et,hkl,hkt⟩:=hT3.ex
  obtain ⟨kw,ew,hwl,hkw⟩:=hW3.ex
  refine ⟨smn 0,fun lk hlk=>?_⟩
  have s4:=same_new hlk (.lst [])
  have e4:(upd H3 lk (.lst [])) lk=some (.lst []):=upd_same
  have nlk:∀ {a:Addr} {o:HO},H3 a=some o→a≠lk:=fun e=>ne_of_none e hlk
  have flk:H lk=none:=s3.free hlk
  generalize upd H3 lk (.lst [])=H4 at s4 e4 ⊢
  refine ⟨_,rfl,m,_,rfl,DPut.k (k:=(Sum.inr "links" : Key)) (s4 _ _ em3) (small1000 (show 3≤1000 by omega)),?_⟩
  rw [put_links]
  have b5:But m H4 (upd H4 m (.dK (md2 dt dw lr lk))):=.upd _
  have em5:(upd H4 m (.dK (md2 dt dw lr lk))) m=some (.dK (md2 dt dw lr lk)):=upd_same
  generalize upd H4 m (.dK (md2 dt dw lr lk))=H5 at b5 em5
  have em4:=s4 _ _ em3
  have kL5:∀ (a:Addr) (vs:List V),H3 a=some (.lst vs)→H5 a=some (.lst vs):=fun a vs h=>b5 _ _ (s4 _ _ h) (lst_ne (s4 _ _ h) em4)
  have e5:H5 lk=some (.lst []):=b5 _ _ e4 (lst_ne e4 em4)
  have s5:Same H H5:=But.same (s3.trans s4) (hN3.fr m (by simp)) b5
  have hN5:=hN3.keep kL5
  have hT5:TxAt H5 dt (L++R):=⟨kt,b5 _ _ (s4 _ _ et) (Ne.symm m1),hkl,hkt⟩
  have hW5:WhAt (lk :: l0 :: l1 :: S) H5 dw (L++R):=⟨kw,b5 _ _ (s4 _ _ ew) (Ne.symm m2),hwl,fun r hr=>by
    obtain ⟨l',x1,x2,x3⟩:=hkw r hr
    exact ⟨l',x1,fun z=>(List.mem_cons.mp z).elim (nlk x3) x2,kL5 _ _ x3⟩⟩
  have k0:l0≠lk:=nlk hN3.e0
  have k1:l1≠lk:=nlk hN3.e1
  have k2:lr≠lk:=nlk hN3.er
  have k3:m≠lk:=nlk em3
  have k4:dt≠lk:=nlk et
  have k5:dw≠lk:=nlk ew
  clear b5 em4 s4 e4 hN3 hT3 hW3 kL5 nlk hkt hkw hkl hwl et ew em3 s3 hlk H4 H3 kt kw
  refine ⟨_,rfl,p,_,_,_,rfl,rfl,SqT.of (s5 _ _ a1),at_ (j:=2) rfl,pk,rfl,⟨_,SqT.of (s5 _ _ a6)⟩,?_⟩
  have a6':=s5 _ _ a6
  have nT:pk≠lk:=ne_of a6' e5 (by intro z; cases z)
  refine for_tup (K:=K) (a:=pk) (xs:=us) (fun i σ H'=>∃ (v3 v4 v5 v6 v7:Option V) (ws:List V),σ=[some (.ref p),some (.ref m),v2,v3,v4,v5,v6,v7]∧But lk H5 H'∧H' lk=some (.lst ws)∧ws.length=i∧∀ (j:Nat) (u:V) (kk:Lnk),ws[j]?=some u→ks[j]?=some kk→LkAt (lk :: l0 :: l1 :: S) H' u kk) ⟨_,_,_,_,_,[],rfl,.of (Same.refl _),e5,rfl,fun j u kk h=>nomatch h⟩ ?_ ?_ ?_
  · rintro i σ H6 _ ⟨_,_,_,_,_,_,_,b6,_⟩
    exact SqT.of (b6 _ _ a6' nT)
  · rintro i y σ H6 hi ⟨v3,v4,v5,v6,v7,ws,rfl,b6,e6,hwl,hws⟩
    have hil:i < ks.length:=by
      have:=(List.getElem?_eq_some_iff.mp hi).1
      omega
    have dy:Den H y (linkD ks[i]):=at_of a7 hi (by rw [List.getElem?_map,ex_at hil]; rfl)
    have hki:=ex_at hil
    generalize ks[i]=kk at dy hki
    obtain ⟨q,p0,p1,p3,p4,p5,us0,us1,rfl,c0,c1,c2,c3,c4,c5,c6,c7⟩:=den_link dy
    have hu0:=denS c2
    have hu1:=denS c4
    subst hu0
    subst hu1
    have s06:Same H H6:=But.same s5 flk b6
    refine hidS fun E1 hE1=>⟨q,_,rfl,SqT.of (s06 _ _ c0),rfl,_,_,rfl,_,_,rfl,_,_,rfl,_,_,rfl,rfl,?_⟩
    refine ⟨_,rfl,p0,_,rfl,.inr (SqT.of (s06 _ _ c1)),fun a ha=>?_⟩
    have s7:=same_new ha (.lst (kk.1.map mkT))
    have f7:(upd H6 a (.lst (kk.1.map mkT))) a=some (.lst (kk.1.map mkT)):=upd_same
    generalize upd H6 a (.lst (kk.1.map mkT))=H7 at s7 f7 ⊢
    refine ⟨_,rfl,p1,_,rfl,.inr (SqT.of (s7 _ _ (s06 _ _ c3))),fun b hb=>?_⟩
    have s8:=same_new hb (.lst (kk.2.1.map mkT))
    have f8:(upd H7 b (.lst (kk.2.1.map mkT))) b=some (.lst (kk.2.1.map mkT)):=upd_same
    generalize upd H7 b (.lst (kk.2.1.map mkT))=H8 at s8 f8 ⊢
    refine ⟨_,rfl,smn 3,fun q0 hq0=>?_⟩
    have s9:=same_new hq0 (.lst [.ref a,.ref b,.int kk.2.2.1])
    have f9:(upd H8 q0 (.lst [.ref a,.ref b,.int kk.2.2.1])) q0=some (.lst [.ref a,.ref b,.int kk.2.2.1]):=upd_same
    generalize upd H8 q0 (.lst [.ref a,.ref b,.int kk.2.2.1])=H9 at s9 f9 ⊢
    have s69:=(s7.trans s8).trans s9
    have s09:=s06.trans s69
    have em9:=s69 _ _ (b6 _ _ em5 k3)
    have e69:=s69 _ _ e6
    refine ⟨_,rfl,m,_,rfl,g2_links em9,.inl ⟨rfl,_,SqL.of e69⟩,_,rfl,_,rfl,p3,rfl,⟨_,SqT.of (s09 _ _ c5)⟩,fun lc hlc=>?_⟩
    refine comp_byH (J:=Itt K p3) (l:=lc) 2 (fun j σ' H'=>∃ (v0:Option V) (as:List Addr),σ'=[v0]∧Same H9 H'∧H' lc=some (.lst (as.map V.ref))∧as.length=j∧(∀ x∈as,H9 x=none∧x≠lc)∧∀ (z:Nat) (x:Addr),as[z]?=some x→H' x=some (.lst ((two2 kk z).map V.int))) ⟨none,[],rfl,same_new hlc _,upd_same,rfl,(fun x h=>nomatch h),fun z x h=>nomatch h⟩ ?_ ?_
    rotate_left
    · rintro j σ' Ha hj ⟨v0,as,rfl,sa,ea,hal,hfr,hrow⟩
      obtain ⟨hj1,pq,hat,hpq⟩:j≤1∧∃ pq:Addr,[V.ref p4,V.ref p5][j]?=some (.ref pq)∧H pq=some (.tup ((two2 kk j).map V.int)):=by
        match j,hj with
        | 0,_=>exact ⟨by omega,p4,rfl,c6⟩
        | 1,_=>exact ⟨by omega,p5,rfl,c7⟩
      have s0a:=s09.trans sa
      refine ⟨⟨_,_,SqT.of (s0a _ _ c5),hat⟩,?_⟩
      rintro N2 hN2 y Hb ⟨rfl,hy⟩
      have ey:y=.ref pq:=Option.some.inj ((hy _ (SqT.of (s0a _ _ c5))).symm.trans hat)
      subst ey
      refine gN (yesT (iteT ⟨_,rfl,pq,_,rfl,.inr (SqT.of (s0a _ _ hpq)),fun li hli=>?_⟩))
      have nli:li≠lc:=(ne_of_none ea hli).symm
      have sb:=same_new hli (.lst ((two2 kk j).map V.int))
      have eb:(upd Hb li (.lst ((two2 kk j).map V.int))) li=some (.lst ((two2 kk j).map V.int)):=upd_same
      generalize upd Hb li (.lst ((two2 kk j).map V.int))=Hc at sb eb ⊢
      refine ⟨_,sb _ _ ea,small1000 (by rw [List.length_map]; omega),hN2 _ _ ⟨_,as++[li],rfl,same_updN (sa.trans sb) hlc,by rw [upd_same,List.map_append]; rfl,by rw [List.length_append,hal]; rfl,fun x hx=>?_,fun z x hz=>?_⟩⟩
      · rcases List.mem_append.mp hx with h | h
        · exact hfr x h
        · rw [List.mem_singleton.mp h]
          exact ⟨sa.free hli,nli⟩
      · rcases Nat.lt_or_ge z as.length with h | h
        · rw [List.getElem?_append_left h] at hz
          rw [upd_ne (hfr x (List.mem_of_getElem? hz)).2]
          exact sb _ _ (hrow z x hz)
        · rw [List.getElem?_append_right h] at hz
          have hz0:z - as.length=0:=by
            have:=(List.getElem?_eq_some_iff.mp hz).1
            rw [List.length_singleton] at this
            omega
          rw [hz0] at hz
          have ex:li=x:=Option.some.inj hz
          have ez:z=j:=by omega
          rw [← ex,ez,upd_ne nli]
          exact eb
    rintro σ' Ha ⟨v0,as,rfl,sa,ea,hal,hfr,hrow⟩
    obtain ⟨c,d,rfl⟩:∃ c d,as=[c,d]:=by
      match as,hal with
      | [c,d],_=>exact ⟨c,d,rfl⟩
    refine ⟨⟨_,SqT.of (sa _ _ (s09 _ _ c5)),Nat.le_refl _⟩,q0,lc,_,_,rfl,rfl,sa _ _ f9,ea,smn 5,fun qn hqn=>?_⟩
    have sb:=same_new hqn (.lst [.ref a,.ref b,.int kk.2.2.1,.ref c,.ref d])
    have eb:(upd Ha qn (.lst [.ref a,.ref b,.int kk.2.2.1,.ref c,.ref d])) qn=some (.lst [.ref a,.ref b,.int kk.2.2.1,.ref c,.ref d]):=upd_same
    generalize hHb:upd Ha qn (.lst [.ref a,.ref b,.int kk.2.2.1,.ref c,.ref d])=Hb at sb eb
    have hHb:upd Ha qn (.lst ([.ref a,.ref b,.int kk.2.2.1]++[c,d].map V.ref))=Hb:=hHb
    rw [hHb]
    have s9b:=sa.trans sb
    have s6b:=s69.trans s9b
    have e6b:=s6b _ _ e6
    have bb:But lk H5 (upd Hb lk (.lst (ws++[.ref qn]))):=(b6.trans (.of s6b)).trans (.upd _)
    have nb:∀ {x:Addr},H6 x=none→x ∉ lk :: l0 :: l1 :: S:=fun {x} hx z=>by
      rcases List.mem_cons.mp z with z | z
      · rw [z,e6] at hx
        cases hx
      · rcases List.mem_cons.mp z with z | z
        · rw [z,b6 _ _ hN5.e0 k0] at hx
          cases hx
        · rcases List.mem_cons.mp z with z | z
          · rw [z,b6 _ _ hN5.e1 k1] at hx
            cases hx
          · obtain ⟨o,ho⟩:=hS x z
            rw [s06 _ _ ho] at hx
            cases hx
    have na:=nb ha
    have nbb:=nb (s7.free hb)
    have hc9:=hfr c (.head _)
    have hd9:=hfr d (.tail _ (.head _))
    have nc:=nb (s69.free hc9.1)
    have nd':=nb (s69.free hd9.1)
    have nq:=nb ((s69.trans sa).free hqn)
    have kb:∀ {x:Addr} {vs:List V},Hb x=some (.lst vs)→x ∉ lk :: l0 :: l1 :: S→(upd Hb lk (.lst (ws++[.ref qn]))) x=some (.lst vs):=fun h n=>by
      rw [upd_ne fun z=>n (by rw [z]; exact .head _)]
      exact h
    refine ⟨lk,ws,_,rfl,rfl,e6b,small1000 (by omega),hE1.n _ _ ⟨_,_,_,_,_,ws++[.ref qn],rfl,bb,upd_same,by rw [List.length_append,hwl]; rfl,fun j u k' hu hk'=>?_⟩⟩
    rcases Nat.lt_or_ge j ws.length with h | h
    · rw [List.getElem?_append_left h] at hu
      exact (hws j u k' hu hk').keepL fun x vs hx hn=>kb (s6b _ _ hx) hn
    · rw [List.getElem?_append_right h] at hu
      have hj0:j - ws.length=0:=by
        have:=(List.getElem?_eq_some_iff.mp hu).1
        rw [List.length_singleton] at this
        omega
      rw [hj0] at hu
      have ej:j=i:=by omega
      have ek:k'=kk:=by
        rw [ej,hki] at hk'
        exact (Option.some.inj hk').symm
      rw [← Option.some.inj hu,ek]
      exact ⟨qn,a,b,c,d,rfl,nq,na,nbb,nc,nd',kb eb nq,kb (s9b _ _ ((s8.trans s9) _ _ f7)) na,kb (s9b _ _ (s9 _ _ f8)) nbb,kb (sb _ _ (hrow 0 c rfl)) nc,kb (sb _ _ (hrow 1 d rfl)) nd'⟩
  · rintro σ H6 ⟨v3,v4,v5,v6,v7,ws,rfl,b6,e6,hwl,hws⟩
    have s06:Same H H6:=But.same s5 flk b6
    refine ⟨_,rfl,p,_,_,_,rfl,rfl,SqT.of (s06 _ _ a1),at_ (j:=3) rfl,pa,_,rfl,.inr (SqT.of (s06 _ _ a8)),fun la hla=>?_⟩
    have s7:=same_new hla (.lst (al.map mkT))
    have e7:(upd H6 la (.lst (al.map mkT))) la=some (.lst (al.map mkT)):=upd_same
    have nla:∀ {x:Addr} {o:HO},H6 x=some o→x≠la:=fun e=>ne_of_none e hla
    have fla:H la=none:=s06.free hla
    generalize upd H6 la (.lst (al.map mkT))=H7 at s7 e7 ⊢
    have em6:=b6 _ _ em5 k3
    have em7:=s7 _ _ em6
    refine ⟨_,rfl,m,_,rfl,DPut.k (k:=(Sum.inr "alone" : Key)) em7 (small1000 (show 4≤1000 by omega)),_,rfl,?_⟩
    obtain ⟨kt,et,hkl,hkt⟩:=hT5.ex
    obtain ⟨kw,ew,hkwl,hkw⟩:=hW5.ex
    have pe:=put_alone ⟨m,dt,dw,lr,l0,l1,lk,la⟩
    have pe:putK (md2 dt dw lr lk) (Sum.inr "alone" : Key) (.ref la)=mdK ⟨m,dt,dw,lr,l0,l1,lk,la⟩:=pe
    rw [pe]
    have kp:∀ {x:Addr} {o:HO},H5 x=some o→x≠lk→x≠m→(upd H7 m (.dK (mdK ⟨m,dt,dw,lr,l0,l1,lk,la⟩))) x=some o:=fun h h1 h2=>by
      rw [upd_ne h2]
      exact s7 _ _ (b6 _ _ h h1)
    have kp6:∀ {x:Addr} {vs:List V},H6 x=some (.lst vs)→(upd H7 m (.dK (mdK ⟨m,dt,dw,lr,l0,l1,lk,la⟩))) x=some (.lst vs):=fun h=>by
      rw [upd_ne (lst_ne h em6)]
      exact s7 _ _ h
    have off:∀ {x:Addr},H x=none→x ∉ S:=fun {x} hx z=>by
      obtain ⟨o,ho⟩:=hS x z
      rw [ho] at hx
      cases hx
    have tt:∀ {x:Addr},x ∉ lk :: l0 :: l1 :: S→x ∉ l0 :: l1 :: S:=fun n z=>n (.tail _ z)
    have q0:=nla (b6 _ _ hN5.e0 k0)
    have q1:=nla (b6 _ _ hN5.e1 k1)
    have q2:=nla (b6 _ _ hN5.er k2)
    have q3:=nla em6
    have q4:=nla (b6 _ _ et k4)
    have q5:=nla (b6 _ _ ew k5)
    have q6:=nla e6
    have hus:us.length=ks.length:=hl3
    refine k ⟨m,dt,dw,lr,l0,l1,lk,la⟩ _ (fun x o h=>?_) ⟨upd_same,⟨kt,kp et k4 (Ne.symm m1),hkl,hkt⟩,⟨kw,kp ew k5 (Ne.symm m2),hkwl,fun r hr=>?_⟩,kp hN5.er k2 (Ne.symm m3),kp hN5.e0 k0 (Ne.symm m4),kp hN5.e1 k1 (Ne.symm m5),⟨ws,kp6 e6,by omega,fun j u kk hu hk=>?_⟩,by rw [upd_ne (Ne.symm q3)]; exact e7,fun x hx=>?_,?_⟩
    · rw [upd_ne (ne_of_none h (hN5.fr m (by simp)))]
      exact s7 _ _ (s06 _ _ h)
    · obtain ⟨l',x1,x2,x3⟩:=hkw r hr
      exact ⟨l',x1,tt x2,kp x3 (fun z=>x2 (by rw [z]; exact .head _)) (lst_ne x3 em5)⟩
    · obtain ⟨y,y1,y2,y3,y4,z0,z1,z2,z3,z4,z5,z6,z7,z8,z9,za⟩:=((hws j u kk hu hk)).ex
      exact ⟨y,y1,y2,y3,y4,z0,tt z1,tt z2,tt z3,tt z4,tt z5,kp6 z6,kp6 z7,kp6 z8,kp6 z9,kp6 za⟩
    · simp only [Md.all,List.mem_cons,List.not_mem_nil,or_false] at hx
      rcases hx with rfl | rfl | rfl | rfl | rfl | rfl | rfl | rfl
      · exact off (hN5.fr _ (by simp))
      · exact off (hN5.fr _ (by simp))
      · exact off (hN5.fr _ (by simp))
      · exact off (hN5.fr _ (by simp))
      · exact off (hN5.fr _ (by simp))
      · exact off (hN5.fr _ (by simp))
      · exact off flk
      · exact off fla
    · unfold Md.all
      simp only [List.nodup_cons,List.mem_cons,List.not_mem_nil,or_false,not_or,not_false_eq_true,and_true]
      exact ⟨⟨m1,m2,m3,m4,m5,k3,q3⟩,⟨t1,t2,t3,t4,k4,q4⟩,⟨w1,w2,w3,k5,q5⟩,⟨r1,r2,k2,q2⟩,⟨l01,k0,q0⟩,⟨k1,q1⟩,q6,trivial,List.nodup_nil⟩
end
theorem shal_book {L R:List Prt} {ks:List Lnk} {al:Nms} (h:Tell L R ks al):Shal 5 (bookD L R ks al):=by
  have h1:=h.lL
  have h2:=h.lR
  have h3:=h.lk
  have h4:=h.la
  refine shal_tup (by show 4≤100000; omega) fun d hd=>?_
  simp only [List.mem_cons,List.not_mem_nil,or_false] at hd
  rcases hd with rfl | rfl | rfl | rfl
  · refine shal_tup (by rw [List.length_map]; omega) fun d hd=>?_
    obtain ⟨p,hp,rfl⟩:=List.mem_map.mp hd
    exact (shal_part (by have:=(h.mo p (List.mem_append_left _ hp)).2; omega)).up
  · refine shal_tup (by rw [List.length_map]; omega) fun d hd=>?_
    obtain ⟨p,hp,rfl⟩:=List.mem_map.mp hd
    exact (shal_part (by have:=(h.mo p (List.mem_append_right _ hp)).2; omega)).up
  · refine shal_tup (by rw [List.length_map]; omega) fun d hd=>?_
    obtain ⟨k,hk,rfl⟩:=List.mem_map.mp hd
    exact shal_link (h.gl k hk)
  · exact (shal_names (by omega)).up.up.up
theorem MdAt.shrink {S T:List Addr} {H:Hp} {M:Md} {L R:List Prt} {ks:List Lnk} {al:Nms} (h:MdAt S H M L R ks al) (hs:∀ a∈T,a∈S):MdAt T H M L R ks al:=by
  have tt:∀ {b:Addr},b ∉ M.l0 :: M.l1 :: S→b ∉ M.l0 :: M.l1 :: T:=fun n z=>by
    simp only [List.mem_cons,not_or] at n z
    rcases z with z | z | z
    · exact n.1 z
    · exact n.2.1 z
    · exact n.2.2 (hs _ z)
  obtain ⟨kw,ew,hwl,hkw⟩:=h.w.ex
  obtain ⟨us,eu,hul,hus⟩:=h.lk.ex
  refine ⟨h.m,h.t,⟨kw,ew,hwl,fun p hp=>?_⟩,h.lr,h.l0,h.l1,⟨us,eu,hul,fun i u k hu hk=>?_⟩,h.la,fun b hb z=>h.off b hb (hs _ z),h.nd⟩
  · obtain ⟨l,w1,w2,w3⟩:=hkw p hp
    exact ⟨l,w1,tt w2,w3⟩
  · obtain ⟨q,c1,c2,c3,c4,e,n1,n2,n3,n4,n5,e1,e2,e3,e4,e5⟩:=(hus i u k hu hk).ex
    exact ⟨q,c1,c2,c3,c4,e,tt n1,tt n2,tt n3,tt n4,tt n5,e1,e2,e3,e4,e5⟩
theorem Wk.next {L R L' R':List Prt} {ks:List Lnk} {al sp:Nms} {i:Nat} {C:Nat→Addr} {d lo pd:Addr} {M:Md} {H:Hp} {o:Option Nat} (h:Wk L R ks al sp i) (dd:Dd C d lo M L R ks al H pd o L' R'):Wk (sel o L L') (sel o R R') ks al (sp.filter fun z=>decide (z ∉ ((sel o L L')++(sel o R R')).map (·.1))) (i+1):=by
  have hf:∀ z∈sp.filter (fun z=>decide (z ∉ ((sel o L L')++(sel o R R')).map (·.1))),z∈sp∧z ∉ ((sel o L L')++(sel o R R')).map (·.1):=fun z hz=>⟨(List.mem_filter.mp hz).1,of_decide_eq_true (List.mem_filter.mp hz).2⟩
  have hsl:=h.sl
  have hsu:=h.su
  have hL:=h.lL
  have hR:=h.lR
  have hfl:=List.length_filter_le (fun z=>decide (z ∉ ((sel o L L')++(sel o R R')).map (·.1))) sp
  refine ⟨?_,?_,?_,?_,h.sn.filter _,?_,by omega,fun z hz=>h.sm z (hf z hz).1,fun z hz=>(hf z hz).2⟩
  · cases o with
    | none=>exact fun p hp=>(dd.mo rfl p hp).elim (h.mo p) id
    | some e=>exact h.mo
  · cases o with
    | none=>exact dd.nd rfl
    | some e=>exact h.nd
  · cases o with
    | none=>have:=(dd.ll rfl).1; show L'.length≤_; omega
    | some e=>show L.length≤_; omega
  · cases o with
    | none=>have:=(dd.ll rfl).2; show R'.length≤_; omega
    | some e=>show R.length≤_; omega
  · have:∃ x,∀ z∈sp,decide (z ∉ ((sel o L L')++(sel o R R')).map (·.1))=false→z=x:=by
      cases o with
      | none =>
        obtain ⟨x,hx⟩:=dd.nm rfl
        refine ⟨x,fun z hz q=>?_⟩
        have q:z∈(L'++R').map (·.1):=Classical.not_not.mp (of_decide_eq_false q)
        exact (hx z q).resolve_right (h.sd z hz)
      | some e=>exact ⟨[],fun z hz q=>absurd (Classical.not_not.mp (of_decide_eq_false q)) (h.sd z hz)⟩
    obtain ⟨x,hx⟩:=this
    have:=filt_one h.sn hx
    omega
def spWalked (K:PySem.W.Frag) (te:Addr) (A C:Nat→Addr):Sp:=fun vs H Q _=>∃ (d lo ls:Addr) (v:V) (L R:List Prt) (ks:List Lnk) (al sp:Nms),vs=[.ref d,v,.ref ls,.int 40]∧PotAt d lo H∧Den H v (bookD L R ks al)∧H ls=some (.lst (sp.map mkT))∧ls≠lo∧Wk L R ks al sp 0∧Wf ks al∧(∀ e,e≤2→KC K te A e∧C e=A e)∧∀ H',Q (.bl true) H'
theorem sideV_dec {L R:List Prt} {z:List Nat}:decide (sideV L R z=V.non)=decide (z ∉ (L++R).map (·.1)):=by
  rw [Bool.eq_iff_iff,decide_eq_true_eq,decide_eq_true_eq,sideV_none,partN_mem,decide_eq_true_eq]
section
variable {P:Program} {w:World} {K:PySem.W.Frag} {mg:Str→Option Value} {base:Heap} {a_NoPart a_TwainError a_NoPlace a_Twice a_Linked a_Apart a_NoDeed a_NoText:Addr}
theorem scWalked:FnScope ["_law_pot_here", "_law_book_here", "_law_spare", "_law_many", "_law_model_here", "_law_k", "_law_deed_here", "_law_told", "_law_word"] ["_law_pot_here", "_law_book_here", "_law_spare", "_law_many"] (defScope sWalked):=⟨rfl,rfl,rfl,by decide +kernel,rfl,by decide +kernel,by decide +kernel⟩
theorem c_walked (h:Has K mg "_law_walked" sWalked ["_law_pot_here", "_law_book_here", "_law_spare", "_law_many"]) (C_model:Cal P w K mg base "_law_model" 1 ["_law_book_here"] spModel) (C_deed:Cal P w K mg base "_law_deed" 3 ["_law_pot_here", "_law_model_here", "_law_spare"] spDeed) (C_tried:Cal P w K mg base "_law_tried" 6 ["_law_book_here", "_law_deed_here"] (spTried K a_TwainError (a7 a_NoPart a_NoPlace a_Twice a_Linked a_Apart a_NoDeed a_NoText) (c3 a_NoPart a_NoPlace a_Twice))) (C_do:Cal P w K mg base "_law_do" 4 ["_law_model_here", "_law_deed_here"] spDo) (C_kinds:Cal P w K mg base "_law_kinds" 6 ["_law_thing"] (spKinds 6)) (C_as_book:Cal P w K mg base "_law_as_book" 1 ["_law_model_here"] spAsBook) (C_side:Cal P w K mg base "_law_side" 1 ["_law_model_here", "_law_name"] spSide) (m_range:mg "range" = none):Cal P w K mg base "_law_walked" 7 ["_law_pot_here", "_law_book_here", "_law_spare", "_law_many"] (spWalked K a_TwainError (a7 a_NoPart a_NoPlace a_Twice a_Linked a_Apart a_NoDeed a_NoText) (c3 a_NoPart a_NoPlace a_Twice)):=by
  refine h.mk' scWalked (fun vs H Q E hs=>?_) (fun f cdv A outer s H vs Q E hr hs=>?_)
  · obtain ⟨d,lo,ls,v,L,R,ks,al,sp,rfl,_⟩:=hs
    rfl
  obtain ⟨d,lo,ls,v,L,R,ks,al,sp,rfl,hp,hv,hls,nls,hw,hf,hkc,k⟩:=hs
  refine ⟨_,(pss_cons (ps_set (i:=4) scWalked.nd rfl (Or.inr rfl) (pe_cal C_model hr (by decide) rfl (pa_cons (pv 1) pa_nil)))
    (pss_cons (ps_for PassesOwn.never rfl (pi_range1 rfl m_range (pa_cons (pv 3) pa_nil)) (pg_name (i:=5) scWalked.nd rfl (Or.inl rfl))
      (pss_cons (ps_set (i:=6) scWalked.nd rfl (Or.inl rfl) (pe_cal C_deed hr (by decide) rfl (pa_cons (pv 0) (pa_cons (pv 4) (pa_cons (pv 2) pa_nil)))))
    (pss_cons (ps_asg (pe_cal C_tried hr (by decide) rfl (pa_cons (pv 1) (pa_cons (pv 6) pa_nil))) (pg_tup (n:=2) rfl (pgs_cons (pg_name (i:=7) scWalked.nd rfl (Or.inl rfl)) (pgs_cons (pg_name (i:=8) scWalked.nd rfl (Or.inl rfl)) pgs_nil))))
    (pss_cons (ps_if (pt_cmpR op_ne (pv 8) (pe_cal C_do hr (by decide) rfl (pa_cons (pv 4) (pa_cons (pv 6) pa_nil))) (nomark _))
      (pss_one (ps_ret pe_bl))
      pss_nil)
    (pss_cons (ps_if (pt_cmpR op_eq (pv 8) pe_str (nomark _))
      (pss_cons (ps_if (PW.pt (pw_or (pt_cmpR (op_neD hr.units) (pv 7) (pe_cal C_as_book hr (by decide) rfl (pa_cons (pv 4) pa_nil)) (nomark _)) (pw_or1 (pt_not (pt_val (pe_cal C_kinds hr (by decide) rfl (pa_cons (pv 7) pa_nil)))))))
      (pss_one (ps_ret pe_bl))
      pss_nil)
    (pss_cons (ps_if (pt_cmpR (op_neD hr.units) (pe_cal C_tried hr (by decide) rfl (pa_cons (pv 1) (pa_cons (pv 6) pa_nil))) (pe_tup (pa_cons (pv 7) (pa_cons pe_str pa_nil))) (nomark _))
      (pss_one (ps_ret pe_bl))
      pss_nil)
    (pss_one (ps_set (i:=1) scWalked.nd rfl (Or.inl rfl) (pv 7)))))
      pss_nil)
    (pss_one (ps_setC (ix:=2) scWalked.nd rfl rfl ["_law_pot_here", "_law_book_here", "_law_spare", "_law_many", "_law_model_here", "_law_k", "_law_deed_here", "_law_told", "_law_word"] (defScope sWalked) ["_law_model_here", "_law_name"] [some 4,none] rfl rfl rfl (pi_list (pv 2)) rfl (by decide +kernel) (by decide +kernel) (by decide +kernel) (by decide +kernel) (hg:=fun cl C s H ex pn E=>(pg_name (i:=1) (by decide +kernel:(["_law_model_here", "_law_name"]:List Str).Nodup) rfl (Or.inl rfl))) (ht:=fun cl C s H ex pn E=>(pifs_one (pt_cmpR op_isN (pe_cal C_side hr (by decide) rfl (pa_cons (pv 0) (pa_cons (pv 1) pa_nil))) pe_non (nomark _)))) (he:=fun cl C s H ex pn E=>(pv 1)))))))))
    (pss_one (ps_ret pe_bl)))),?_⟩
  have hpS:∀ {H':Hp},PotAt d lo H'→∀ a∈[d,lo],∃ o,H' a=some o:=fun h a ha=>by
    obtain ⟨cs,x,y,z,e1,e2,_⟩:=h
    simp only [List.mem_cons,List.not_mem_nil,or_false] at ha
    rcases ha with rfl | rfl
    · exact ⟨_,e1⟩
    · exact ⟨_,e2⟩
  have w1:=hw.lL
  have w2:=hw.lR
  have w3:=hf.lk
  refine ⟨_,rfl,[d,lo,ls],v,L,R,ks,al,rfl,hv,fun a ha=>?_,by omega,by omega,by omega,hw.nd,fun M H1 s1 hM=>?_⟩
  · simp only [List.mem_cons,List.not_mem_nil,or_false] at ha
    rcases ha with rfl | rfl | rfl
    · exact hpS hp _ (by simp)
    · exact hpS hp _ (by simp)
    · exact ⟨_,hls⟩
  have n0:ls≠M.l0:=fun z=>hM.off M.l0 (by simp [Md.all]) (by rw [← z]; simp)
  have n1:ls≠M.l1:=fun z=>hM.off M.l1 (by simp [Md.all]) (by rw [← z]; simp)
  have hM1:=hM.shrink (T:=[d,lo]) (fun a ha=>by simp only [List.mem_cons,List.not_mem_nil,or_false] at ha ⊢; rcases ha with h | h <;> simp [h])
  have off4:∀ {a:Addr},a∈[d,lo]→a ∉ [M.l0,M.l1,M.dt,M.dw]:=fun {a} ha z=>by
    simp only [List.mem_cons,List.not_mem_nil,or_false] at z
    rcases z with rfl | rfl | rfl | rfl <;> exact hM1.off _ (by simp [Md.all]) ha
  refine ⟨_,rfl,40,rfl,by omega,by omega,?_⟩
  refine for_range (lo:=0) (n:=(40:Int).toNat) (fun i σ H'=>∃ (v5 v6 v7 v8:Option V) (v:V) (ls:Addr) (L R:List Prt) (sp:Nms),σ=[some (.ref d),some v,some (.ref ls),some (.int 40),some (.ref M.m),v5,v6,v7,v8]∧PotAt d lo H'∧Den H' v (bookD L R ks al)∧MdAt [d,lo] H' M L R ks al∧H' ls=some (.lst (sp.map mkT))∧ls≠lo∧ls≠M.l0∧ls≠M.l1∧Wk L R ks al sp i) ⟨_,_,_,_,v,ls,L,R,sp,rfl,hp.same s1,hv.same s1,hM1,s1 _ _ hls,nls,n0,n1,hw⟩ ?_ ?_
  · clear hp hv hls nls hw hM hM1 n0 n1 s1 H1 v ls L R sp w1 w2
    rintro i σ H1 hi ⟨v5,v6,v7,v8,v,ls,L,R,sp,rfl,p1,dv,hM1,els,nls,n0,n1,hw⟩
    have hi40:i < 40:=hi
    have w1:=hw.lL
    have w2:=hw.lR
    have wsl:=hw.sl
    have wsu:=hw.su
    have hlen:(L++R).length≤200:=by rw [List.length_append]; omega
    have hsne:sp≠[]:=fun z=>by rw [z,List.length_nil] at wsl; omega
    have hnm:∀ z∈sp++(L++R).map (·.1),z.length≤1000:=fun z hz=>by
      rcases List.mem_append.mp hz with h | h
      · exact hw.sm z h
      · obtain ⟨p,hp,e⟩:=List.mem_map.mp h
        rw [← e]
        exact (hw.mo p hp).2.2.2
    refine hidS fun E hE=>gN ?_
    refine seqP (fun σ H'=>∃ (pd:Addr) (o:Option Nat) (L' R':List Prt),σ=[some (.ref d),some v,some (.ref ls),some (.int 40),some (.ref M.m),some (.int (0+(i:Nat))),some (.ref pd),v7,v8]∧PotAt d lo H'∧Old d lo H1 H'∧Dd (c3 a_NoPart a_NoPlace a_Twice) d lo M L R ks al H' pd o L' R') (fun N hN=>?_) ?_
    · refine ⟨_,rfl,_,rfl,_,rfl,d,lo,ls,M,L,R,ks,al,sp,rfl,p1,hM1,els,nls,hsne,by omega,hlen,hnm,fun pd t n b x tx H2 hpd hn hb hx ht h0 h1 p2 o2=>hN _ _ ⟨pd,_,_,_,rfl,p2,o2,mk_dd_put hpd hn hb hx ht (hw.sm' (by omega)) hlen hw.nd⟩,fun pd t b x H2 hpd hb hx p2 o2=>?_⟩
      obtain ⟨L',R',dd⟩:=mk_dd_move (C:=c3 a_NoPart a_NoPlace a_Twice) (d:=d) (lo:=lo) (M:=M) (ks:=ks) (al:=al) hpd hb hx (hw.sm' (by omega)) hlen hw.nd
      exact hN _ _ ⟨pd,_,L',R',rfl,p2,o2,dd⟩
    rintro σ H2 ⟨pd,o,L',R',rfl,p2,o2,dd⟩
    have dv2:=dv.keepT (old_keep p1 o2)
    have hM2:=hM1.keep (.old o2)
    have els2:=old_lst p1 o2 els nls
    have hkc':∀ e,o=some e→e≤2∧KC K a_TwainError (a7 a_NoPart a_NoPlace a_Twice a_Linked a_Apart a_NoDeed a_NoText) e∧c3 a_NoPart a_NoPlace a_Twice e=a7 a_NoPart a_NoPlace a_Twice a_Linked a_Apart a_NoDeed a_NoText e:=fun e he=>⟨dd.le e he,hkc e (dd.le e he)⟩
    refine seqP (fun σ H'=>∃ u:V,σ=[some (.ref d),some v,some (.ref ls),some (.int 40),some (.ref M.m),some (.int (0+(i:Nat))),some (.ref pd),some u,some (.str (errS o))]∧Same H2 H'∧(o=none→Den H' u (bookD L' R' ks al))) (fun N hN=>?_) ?_
    · refine ⟨_,rfl,_,rfl,v,pd,o,bookD L' R' ks al,rfl,hkc',fun Q' E' h1 h2=>dd.dn v Q' E' H2 (fun _ _ h=>h) dv2 h1 h2,fun ho t u H3 s3 et du=>?_,fun e ho t H3 s3 et=>?_⟩
      · subst ho
        exact ⟨t,_,rfl,SqT.of et,rfl,_,_,rfl,_,_,rfl,rfl,hN _ _ ⟨u,rfl,s3,fun _=>du⟩⟩
      · subst ho
        exact ⟨t,_,rfl,SqT.of et,rfl,_,_,rfl,_,_,rfl,rfl,hN _ _ ⟨.non,rfl,s3,fun z=>nomatch z⟩⟩
    rintro σ H3 ⟨u,rfl,s3,du⟩
    have p3:=p2.same s3
    have hM3:=hM2.same s3
    have els3:=s3 _ _ els2
    have dv3:=dv2.same s3
    refine seqP (fun σ H'=>σ=[some (.ref d),some v,some (.ref ls),some (.int 40),some (.ref M.m),some (.int (0+(i:Nat))),some (.ref pd),some u,some (.str (errS o))]∧Keep [M.l0,M.l1,M.dt,M.dw] H3 H'∧MdAt [d,lo] H' M (sel o L L') (sel o R R') ks al) (fun N hN=>?_) ?_
    · refine ⟨_,rfl,_,rfl,_,rfl,dd.du _ _ H3 (fun _ _ h=>s3 _ _ h) hM3 (hpS p3) (fun e he H4 s4=>?_) (fun he H4 k4 m4=>?_)⟩
      · subst he
        exact ⟨rfl,_,rfl,ite2 (fun z=>by simp at z) fun _=>hN _ _ ⟨rfl,.of s4,hM3.same s4⟩⟩
      · subst he
        exact ⟨rfl,_,rfl,ite2 (fun z=>by simp at z) fun _=>hN _ _ ⟨rfl,k4,m4⟩⟩
    rintro σ H4 ⟨rfl,k4,hM4⟩
    obtain ⟨kt,et3,_⟩:=hM3.t.ex
    obtain ⟨kw,ew3,_⟩:=hM3.w.ex
    have p4:PotAt d lo H4:=by
      obtain ⟨cs,x,y,z,e1,e2,r⟩:=p3
      exact ⟨cs,x,y,z,k4 _ _ e1 (off4 (by simp)),k4 _ _ e2 (off4 (by simp)),r⟩
    have els4:H4 ls=some (.lst (sp.map mkT)):=k4 _ _ els3 fun z=>by
      simp only [List.mem_cons,List.not_mem_nil,or_false] at z
      rcases z with z | z | z | z
      · exact n0 z
      · exact n1 z
      · exact lst_ne els3 et3 z
      · exact lst_ne els3 ew3 z
    have kT:∀ (b:Addr) (vs:List V),H3 b=some (.tup vs)→H4 b=some (.tup vs):=fun b vs h=>k4 _ _ h fun z=>by
      simp only [List.mem_cons,List.not_mem_nil,or_false] at z
      rcases z with z | z | z | z
      · exact ne_of h hM3.l0 (by intro z; cases z) z
      · exact ne_of h hM3.l1 (by intro z; cases z) z
      · exact ne_of h et3 (by intro z; cases z) z
      · exact ne_of h ew3 (by intro z; cases z) z
    have hW:=hw.next dd
    have hTl:=hW.tell hf (by omega)
    refine seqP (fun σ H'=>∃ v':V,σ=[some (.ref d),some v',some (.ref ls),some (.int 40),some (.ref M.m),some (.int (0+(i:Nat))),some (.ref pd),some u,some (.str (errS o))]∧Same H4 H'∧Den H' v' (bookD (sel o L L') (sel o R R') ks al)) (fun N hN=>?_) ?_
    · refine ⟨_,rfl,rfl,_,rfl,?_⟩
      cases o with
      | some e =>
        refine ite2 (fun z=>?_) (fun _=>hN _ _ ⟨v,rfl,Same.refl _,dv3.keepT kT⟩)
        exact absurd (of_decide_eq_true z) fun q=>(err_ne (o:=some e)).mpr (fun y=>nomatch y) |> fun r=>by rw [decide_eq_true q] at r; cases r
      | none =>
        refine iteT ?_
        have du4:Den H4 u (bookD L' R' ks al):=(du rfl).keepT kT
        refine ⟨_,rfl,_,rfl,[d,lo],M,L',R',ks,al,rfl,hM4,hTl,fun bk H5 s5 db=>⟨_,5,du4.same s5,db,shal_book hTl,by omega,_,rfl,iteF ?_⟩⟩
        refine ⟨_,rfl,u,_,rfl,du4.same s5,pl_book hTl,fun H6 s6=>⟨_,rfl,iteF ?_⟩⟩
        have s46:=s5.trans s6
        have pd2:∀ (b:Addr) (vs:List V),H2 b=some (.tup vs)→H4 b=some (.tup vs):=fun b vs h=>kT _ _ (s3 _ _ h)
        have dv6:Den H6 v (bookD L R ks al):=(dv3.keepT kT).same s46
        refine ⟨_,rfl,_,rfl,v,pd,none,bookD L' R' ks al,rfl,hkc',fun Q' E' h1 h2=>dd.dn v Q' E' H6 (fun b vs h=>s46 _ _ (pd2 _ _ h)) dv6 h1 h2,fun _ t u2 H7 s7 et du2=>⟨_,rfl,smn 2,fun t2 ht2=>?_⟩,fun e ho=>(nomatch ho)⟩
        have s8:=same_new ht2 (.tup [u,.str (errS none)])
        have e8:(upd H7 t2 (.tup [u,.str (errS none)])) t2=some (.tup [u,.str (errS none)]):=upd_same
        have du8:=(du4.same s46).same (s7.trans s8)
        have s48:=s46.trans (s7.trans s8)
        refine ⟨[bookD L' R' ks al,.str (errS none)],6,⟨t,_,rfl,s8 _ _ et,du2.same s8,rfl,trivial⟩,⟨t2,_,rfl,e8,du8,rfl,trivial⟩,shal_tup (by show 2≤100000; omega) fun x hx=>?_,by omega,_,rfl,iteF ⟨_,rfl,hN _ _ ⟨u,rfl,s48,du8⟩⟩⟩
        simp only [List.mem_cons,List.not_mem_nil,or_false] at hx
        rcases hx with rfl | rfl
        · exact shal_book hTl
        · exact shal_ups (n:=0) (shal_str _) 5
    rintro σ H5 ⟨v',rfl,s5,dv5⟩
    have p5:=p4.same s5
    have hM5:=hM4.same s5
    have els5:=s5 _ _ els4
    refine ⟨_,rfl,ls,rfl,⟨_,SqL.of els5⟩,fun lc hlc=>?_⟩
    have nlo:lc≠lo:=(p5.ne hlc).2
    have nl0:lc≠M.l0:=(ne_of_none hM5.l0 hlc).symm
    have nl1:lc≠M.l1:=(ne_of_none hM5.l1 hlc).symm
    refine comp_byH (J:=Itl K ls) (l:=lc) sp.length (fun j σ' H'=>∃ v1:Option V,σ'=[some (.ref M.m),v1]∧Same H5 H'∧H' lc=some (.lst (((sp.take j).filter fun z=>decide (z ∉ ((sel o L L')++(sel o R R')).map (·.1))).map mkT))) ⟨none,rfl,same_new hlc _,upd_same⟩ ?_ ?_
    · rintro σ' H6 ⟨v1,rfl,s6,e6⟩
      rw [List.take_length] at e6
      exact ⟨⟨_,SqL.of (s6 _ _ els5),by rw [List.length_map]; exact Nat.le_refl _⟩,hE.n _ _ ⟨_,_,_,_,v',lc,_,_,_,rfl,p5.same s6,dv5.same s6,hM5.same s6,e6,nlo,nl0,nl1,hW⟩⟩
    · rintro j σ' H6 hj ⟨v1,rfl,s6,e6⟩
      have hat:(sp.map mkT)[j]?=some (mkT sp[j]):=by rw [List.getElem?_map,ex_at hj]; rfl
      refine ⟨⟨_,_,SqL.of (s6 _ _ els5),hat⟩,?_⟩
      rintro N2 hN2 y H7 ⟨rfl,hy⟩
      have ey:y=mkT sp[j]:=Option.some.inj ((hy _ (SqL.of (s6 _ _ els5))).symm.trans hat)
      have htk:=take_one (ex_at hj)
      generalize sp[j]=z at ey htk
      subst ey
      refine gN ⟨_,rfl,_,rfl,[d,lo],M,_,_,ks,al,z,rfl,hM5.same s6,fun H8 s8=>⟨rfl,_,rfl,?_⟩⟩
      rw [sideV_dec]
      have e68:=s8 _ _ e6
      have hfl:=List.length_filter_le (fun z=>decide (z ∉ ((sel o L L')++(sel o R R')).map (·.1))) (sp.take j)
      have htl:(sp.take j).length≤70:=by rw [List.length_take]; omega
      refine ite2 (fun c=>?_) (fun c=>?_)
      · refine ⟨_,rfl,_,e68,small1000 (by rw [List.length_map]; omega),hN2 _ _ ⟨_,rfl,same_updN (s6.trans s8) hlc,?_⟩⟩
        rw [upd_same,htk,List.filter_append,List.filter_cons_of_pos (p:=fun z=>decide (z ∉ ((sel o L L')++(sel o R R')).map (·.1))) c,List.filter_nil]
        exact congrArg (fun q=>some (HO.lst q)) (List.map_append (f:=mkT) (l₂:=[z])).symm
      · refine hN2 _ _ ⟨_,rfl,s6.trans s8,?_⟩
        rw [htk,List.filter_append,List.filter_cons_of_neg (p:=fun z=>decide (z ∉ ((sel o L L')++(sel o R R')).map (·.1))) c,List.filter_nil,List.append_nil]
        exact e68
  · rintro σ H1 ⟨v5,v6,v7,v8,v,ls,L,R,sp,rfl,_⟩
    exact k H1
end
def spLaw (K:PySem.W.Frag):Sp:=fun vs H Q _=>∃ (a:Addr) (ns:List Int),vs=[.ref a]∧SqL K H a (ns.map V.int)∧ns.length≤63∧∀ H',Q (.bl true) H'
theorem nd_side {n:Nat} {ks:List Lnk} {k:Lnk} (hk:k∈ks) (h:(linkedN n ks).Nodup):(sideOf n k).Nodup:=by
  have h':((ks.map (sideOf n)).flatten).Nodup:=h
  exact h'.sublist (List.sublist_flatten_of_mem (List.mem_map_of_mem hk))
theorem nm_le {x:List Nat} (h:isNm ⟨x.toArray⟩=true):x.length≤1000:=by
  unfold isNm at h
  rw [Bool.and_eq_true,Bool.and_eq_true] at h
  have:=of_decide_eq_true h.1.2
  have e:(⟨x.toArray⟩:Str).length=x.length:=List.size_toArray
  omega
theorem flat_len {ks:List Lnk} (h:∀ k∈ks,k.1≠[]):ks.length≤(linkedN 0 ks).length:=by
  unfold linkedN
  induction ks with
  | nil=>exact Nat.zero_le _
  | cons k ks ih =>
    rw [List.flatMap_cons,List.length_append,List.length_cons]
    have h1:=ih fun k' hk'=>h k' (.tail _ hk')
    have h2:1≤(sideOf 0 k).length:=List.length_pos_iff.mpr (h k (.head _))
    omega
theorem wf_of {L R:List Prt} {ks:List Lnk} {al:Nms} (g:GoodB L R ks al) (hL:L.length≤12) (hR:R.length≤12):Wf ks al:=by
  have n2:=g.nd2
  have n0:=(n2.sublist (List.sublist_append_left _ _)).sublist (List.sublist_append_left _ _)
  have n1:=(n2.sublist (List.sublist_append_left _ _)).sublist (List.sublist_append_right _ _)
  have na:=n2.sublist (List.sublist_append_right _ _)
  have l0:=len_in n0 g.on
  rw [List.length_map] at l0
  have lk:=flat_len fun k hk=>(g.links k hk).2.2.1
  refine ⟨g.links,g.up,by omega,fun k hk=>?_,g.alone,?_⟩
  · have h0:k.1.length≤(L.map (·.1)).length:=len_in (nd_side (n:=0) hk n0) fun x hx=>g.on x (List.mem_flatMap.mpr ⟨k,hk,hx⟩)
    have h1:k.2.1.length≤(R.map (·.1)).length:=len_in (nd_side (n:=1) hk n1) fun x hx=>g.off x (List.mem_flatMap.mpr ⟨k,hk,hx⟩)
    rw [List.length_map] at h0 h1
    have hg:=g.links k hk
    exact ⟨by omega,by omega,hg.2.2.2.2.2.2.1.2.2,hg.2.2.2.2.2.2.2.2.2⟩
  · have:=len_in na g.al_in
    rw [List.length_map,List.length_append] at this
    omega
section
variable {P:Program} {w:World} {K:PySem.W.Frag} {mg:Str→Option Value} {base:Heap} {a_NoPart a_TwainError a_NoPlace a_Twice a_Linked a_Apart a_NoDeed a_NoText:Addr}
theorem scLaw:FnScope ["_law_script", "_law_pot_here", "_law_names_here", "_law_book_here"] ["_law_script"] (defScope sLaw):=⟨rfl,rfl,rfl,by decide +kernel,rfl,by decide +kernel,by decide +kernel⟩
theorem ok_law {f:Addr} {fd:FuncData} (F:Fun K "law" "law" sLaw f fd) (C_pot:Cal P w K mg base "_law_pot" 1 ["_law_script"] (spPot K)) (C_names:Cal P w K mg base "_law_names" 2 ["_law_pot_here"] spNames) (C_book:Cal P w K mg base "_law_book" 5 ["_law_pot_here", "_law_names_here"] spBook) (C_walked:Cal P w K mg base "_law_walked" 7 ["_law_pot_here", "_law_book_here", "_law_spare", "_law_many"] (spWalked K a_TwainError (a7 a_NoPart a_NoPlace a_Twice a_Linked a_Apart a_NoDeed a_NoText) (c3 a_NoPart a_NoPlace a_Twice))) (hKC:∀ e,e≤2→KC K a_TwainError (a7 a_NoPart a_NoPlace a_Twice a_Linked a_Apart a_NoDeed a_NoText) e∧(c3 a_NoPart a_NoPlace a_Twice) e=(a7 a_NoPart a_NoPlace a_Twice a_Linked a_Apart a_NoDeed a_NoText) e):FnOk P w K mg base CX0 8 f fd ["_law_script"] (spLaw K):=by
  refine F.ok scLaw (fun vs H Q E hs=>?_) (fun cdv A outer s H vs Q E hr hs=>?_)
  · obtain ⟨a,ns,rfl,_⟩:=hs
    rfl
  obtain ⟨a,ns,rfl,hS,hl,k⟩:=hs
  refine ⟨_,(pss_cons (ps_set (i:=1) scLaw.nd rfl (Or.inl rfl) (pe_cal C_pot hr (by decide) rfl (pa_cons (pv 0) pa_nil)))
    (pss_cons (ps_set (i:=2) scLaw.nd rfl (Or.inl rfl) (pe_cal C_names hr (by decide) rfl (pa_cons (pv 1) pa_nil)))
    (pss_cons (ps_set (i:=3) scLaw.nd rfl (Or.inl rfl) (pe_cal C_book hr (by decide) rfl (pa_cons (pv 1) (pa_cons (pv 2) pa_nil))))
    (pss_one (ps_ret (pe_cal C_walked hr (by decide) rfl (pa_cons (pv 1) (pa_cons (pv 3) (pa_cons (pv 2) (pa_cons pe_int pa_nil)))))))))),?_⟩
  refine ⟨_,rfl,a,ns,rfl,hS,hl,fun d lo H1 s1 p1=>?_⟩
  refine ⟨_,rfl,d,lo,rfl,p1,fun l xs H2 hl2 e2 hrow p2 o2=>?_⟩
  obtain ⟨nld,nlo⟩:=p1.ne hl2
  refine ⟨_,rfl,_,rfl,d,lo,l,xs,rfl,p2,e2,nld,nlo,hrow,fun q L R ks al rest H3 dq gb hL hR hperm e3 p3 o3=>?_⟩
  obtain ⟨hxl,hxn,hxm⟩:=hrow
  have hnd:=(hperm.nodup_iff.mp hxn)
  rw [List.nodup_append] at hnd
  have hlen:=hperm.length_eq
  rw [List.length_append,List.length_map,List.length_append] at hlen
  refine ⟨_,rfl,_,rfl,_,rfl,d,lo,l,.ref q,L,R,ks,al,rest,rfl,p3,dq,e3,nlo,⟨fun p hp=>?_,gb.nd,by omega,by omega,hnd.2.1,by omega,by omega,fun x hx=>nm_le (hxm x (hperm.mem_iff.mpr (List.mem_append_right _ hx))),fun x hx z=>hnd.2.2 x z x hx rfl⟩,wf_of gb hL hR,hKC,fun H4=>k H4⟩
  have hg:=gb.parts p hp
  exact ⟨hg.2.2.2.1.2.1,hg.2.2.2.1.2.2,hg.2.1,nm_le hg.1⟩
end
theorem all_mk {l:PySem.W.OpenLaw} {w:World} {K:PySem.W.Frag} {h:Heap} {mg:Str→Option Value} {fa f37:Addr} (X:K.In h) (G:h.Ns mainGlobals mg) (hfa:mg "law" = some (.ref fa))
    {od37 an37:Option Addr} {sl37:Array (Option Value)} {oc37 kV37 dc37 pm37 cd37 ct37:Value}
    (i1:FnI K "names_of" sNamesOf)
    (i2:FnI K "part_of" sPartOf)
    (i3:FnI K "has_part" sHasPart)
    (i4:FnI K "side_of" sSideOf)
    (i5:FnI K "replaced" sReplaced)
    (i6:FnI K "parts_without" sPartsWithout)
    (i7:FnI K "parts_with" sPartsWith)
    (i8:FnI K "check_behind" sCheckBehind)
    (i9:FnI K "check_new" sCheckNew)
    (i10:FnI K "put_done" sPutDone)
    (i11:FnI K "move_done" sMoveDone)
    (i12:FnI K "done" sDone)
    (i13:FnI K "_law_pot" sPot)
    (i14:FnI K "_law_next" sNext)
    (i15:FnI K "_law_count" sCount)
    (i16:FnI K "_law_names" sNames)
    (i17:FnI K "_law_taken" sTaken)
    (i18:FnI K "_law_text" sText)
    (i19:FnI K "_law_moments" sMoments)
    (i20:FnI K "_law_sides" sSides)
    (i21:FnI K "_law_some" sSome)
    (i22:FnI K "_law_stood" sStood)
    (i23:FnI K "_law_book" sBook)
    (i24:FnI K "_law_model" sModel)
    (i25:FnI K "_law_as_book" sAsBook)
    (i26:FnI K "_law_side" sSide)
    (i27:FnI K "_law_put_in" sPutIn)
    (i28:FnI K "_law_bad_place" sBadPlace)
    (i29:FnI K "_law_put" sPut)
    (i30:FnI K "_law_move" sMove)
    (i31:FnI K "_law_do" sDo)
    (i32:FnI K "_law_pick" sPick)
    (i33:FnI K "_law_deed" sDeed)
    (i34:FnI K "_law_tried" sTried)
    (i35:FnI K "_law_kinds" sKinds)
    (i36:FnI K "_law_walked" sWalked)
    (a37:PySem.W.nsIn K mainGlobals "law" = some (some (.ref f37))) (l37:K.lookup f37=some ⟨oc37,od37,.func (PySem.W.fnOf "law" "law" (defArgs sLaw) (defBody sLaw) (defScope sLaw) .none kV37 dc37 pm37 an37 cd37 ct37),sl37⟩) (c37:PySem.W.codeIn K cd37 "law" = true) (k37:PySem.W.keepIn K (.ref f37)=true)
    {t_DOERS:Addr} (p_DOERS:PySem.W.nsIn K mainGlobals "DOERS" = some (some (.ref t_DOERS))) (kt_DOERS:KFT K t_DOERS tab_DOERS)
    {a_NoPart a_NoPlace a_Twice a_TwainError a_Apart a_Linked a_NoText a_NoDeed:Addr} (p_NoPart:PySem.W.nsIn K mainGlobals "NoPart" = some (some (.ref a_NoPart))) (p_NoPlace:PySem.W.nsIn K mainGlobals "NoPlace" = some (some (.ref a_NoPlace))) (p_Twice:PySem.W.nsIn K mainGlobals "Twice" = some (some (.ref a_Twice))) (p_TwainError:PySem.W.nsIn K mainGlobals "TwainError" = some (some (.ref a_TwainError))) (p_Apart:PySem.W.nsIn K mainGlobals "Apart" = some (some (.ref a_Apart))) (p_Linked:PySem.W.nsIn K mainGlobals "Linked" = some (some (.ref a_Linked))) (p_NoText:PySem.W.nsIn K mainGlobals "NoText" = some (some (.ref a_NoText))) (p_NoDeed:PySem.W.nsIn K mainGlobals "NoDeed" = some (some (.ref a_NoDeed))) (x_NoPart:PySem.W.excIn K a_NoPart vBm "ValueError.__new__" = true) (x_NoPlace:PySem.W.excIn K a_NoPlace vBm "ValueError.__new__" = true) (x_Twice:PySem.W.excIn K a_Twice vBm "ValueError.__new__" = true) (x_TwainError:PySem.W.excIn K a_TwainError vBm "ValueError.__new__" = true) (b0k:KB K a_NoPart a_TwainError) (n01k:PySem.W.kin_not K a_NoPart a_NoPlace=true) (n02k:PySem.W.kin_not K a_NoPart a_Twice=true) (n03k:PySem.W.kin_not K a_NoPart a_Linked=true) (n04k:PySem.W.kin_not K a_NoPart a_Apart=true) (n05k:PySem.W.kin_not K a_NoPart a_NoDeed=true) (n06k:PySem.W.kin_not K a_NoPart a_NoText=true) (b1k:KB K a_NoPlace a_TwainError) (n10k:PySem.W.kin_not K a_NoPlace a_NoPart=true) (n12k:PySem.W.kin_not K a_NoPlace a_Twice=true) (n13k:PySem.W.kin_not K a_NoPlace a_Linked=true) (n14k:PySem.W.kin_not K a_NoPlace a_Apart=true) (n15k:PySem.W.kin_not K a_NoPlace a_NoDeed=true) (n16k:PySem.W.kin_not K a_NoPlace a_NoText=true) (b2k:KB K a_Twice a_TwainError) (n20k:PySem.W.kin_not K a_Twice a_NoPart=true) (n21k:PySem.W.kin_not K a_Twice a_NoPlace=true) (n23k:PySem.W.kin_not K a_Twice a_Linked=true) (n24k:PySem.W.kin_not K a_Twice a_Apart=true) (n25k:PySem.W.kin_not K a_Twice a_NoDeed=true) (n26k:PySem.W.kin_not K a_Twice a_NoText=true)
    (z_len:PySem.W.nsIn K mainGlobals "len" = some none) (z_int:PySem.W.nsIn K mainGlobals "int" = some none) (z_range:PySem.W.nsIn K mainGlobals "range" = some none) (z_isinstance:PySem.W.nsIn K mainGlobals "isinstance" = some none) (z_tuple:PySem.W.nsIn K mainGlobals "tuple" = some none) (z_bool:PySem.W.nsIn K mainGlobals "bool" = some none) (z_str:PySem.W.nsIn K mainGlobals "str" = some none) (z_list:PySem.W.nsIn K mainGlobals "list" = some none) (z_sorted:PySem.W.nsIn K mainGlobals "sorted" = some none) (z_min:PySem.W.nsIn K mainGlobals "min" = some none) (z_ValueError:PySem.W.nsIn K mainGlobals "ValueError" = some none) (z_all:PySem.W.nsIn K mainGlobals "all" = some none) (z_set:PySem.W.nsIn K mainGlobals "set" = some none) :
    ∃ fd:FuncData,(∀ (s:Shared) (v:Value),BindsTo s fd ⟨[v],[]⟩ [("_law_script",v)])∧∀ base:Heap,K.In base→base.Ns mainGlobals mg→FnOk l.prog w K mg base CX0 8 fa fd ["_law_script"] (spLaw K):=by
  have e:=hfa.symm.trans (PySem.W.mg_of X G a37)
  cases e
  have h_names_of:Has K mg "names_of" sNamesOf ["book"]:=i1.has X G fun _ _ _ _ _ _ us hl=>len1 us hl fun _=>rfl
  have h_part_of:Has K mg "part_of" sPartOf ["book", "name"]:=i2.has X G fun _ _ _ _ _ _ us hl=>len2 us hl fun _ _=>rfl
  have h_has_part:Has K mg "has_part" sHasPart ["book", "name"]:=i3.has X G fun _ _ _ _ _ _ us hl=>len2 us hl fun _ _=>rfl
  have h_side_of:Has K mg "side_of" sSideOf ["book", "name"]:=i4.has X G fun _ _ _ _ _ _ us hl=>len2 us hl fun _ _=>rfl
  have h_replaced:Has K mg "replaced" sReplaced ["row", "place", "thing"]:=i5.has X G fun _ _ _ _ _ _ us hl=>len3 us hl fun _ _ _=>rfl
  have h_parts_without:Has K mg "parts_without" sPartsWithout ["parts", "name"]:=i6.has X G fun _ _ _ _ _ _ us hl=>len2 us hl fun _ _=>rfl
  have h_parts_with:Has K mg "parts_with" sPartsWith ["parts", "behind", "part"]:=i7.has X G fun _ _ _ _ _ _ us hl=>len3 us hl fun _ _ _=>rfl
  have h_check_behind:Has K mg "check_behind" sCheckBehind ["book", "side", "behind"]:=i8.has X G fun _ _ _ _ _ _ us hl=>len3 us hl fun _ _ _=>rfl
  have h_check_new:Has K mg "check_new" sCheckNew ["book", "name"]:=i9.has X G fun _ _ _ _ _ _ us hl=>len2 us hl fun _ _=>rfl
  have h_put_done:Has K mg "put_done" sPutDone ["book", "deed"]:=i10.has X G fun _ _ _ _ _ _ us hl=>len2 us hl fun _ _=>rfl
  have h_move_done:Has K mg "move_done" sMoveDone ["book", "deed"]:=i11.has X G fun _ _ _ _ _ _ us hl=>len2 us hl fun _ _=>rfl
  have h_done:Has K mg "done" sDone ["book", "deed"]:=i12.has X G fun _ _ _ _ _ _ us hl=>len2 us hl fun _ _=>rfl
  have h_pot:Has K mg "_law_pot" sPot ["_law_script"]:=i13.has X G fun _ _ _ _ _ _ us hl=>len1 us hl fun _=>rfl
  have h_next:Has K mg "_law_next" sNext ["_law_pot_here", "_law_many"]:=i14.has X G fun _ _ _ _ _ _ us hl=>len2 us hl fun _ _=>rfl
  have h_count:Has K mg "_law_count" sCount ["_law_pot_here", "_law_most"]:=i15.has X G fun _ _ _ _ _ _ us hl=>len2 us hl fun _ _=>rfl
  have h_names:Has K mg "_law_names" sNames ["_law_pot_here"]:=i16.has X G fun _ _ _ _ _ _ us hl=>len1 us hl fun _=>rfl
  have h_taken:Has K mg "_law_taken" sTaken ["_law_pot_here", "_law_names_here"]:=i17.has X G fun _ _ _ _ _ _ us hl=>len2 us hl fun _ _=>rfl
  have h_text:Has K mg "_law_text" sText ["_law_pot_here"]:=i18.has X G fun _ _ _ _ _ _ us hl=>len1 us hl fun _=>rfl
  have h_moments:Has K mg "_law_moments" sMoments ["_law_pot_here", "_law_many"]:=i19.has X G fun _ _ _ _ _ _ us hl=>len2 us hl fun _ _=>rfl
  have h_sides:Has K mg "_law_sides" sSides ["_law_pot_here", "_law_names_here"]:=i20.has X G fun _ _ _ _ _ _ us hl=>len2 us hl fun _ _=>rfl
  have h_some:Has K mg "_law_some" sSome ["_law_pot_here", "_law_names_here", "_law_most"]:=i21.has X G fun _ _ _ _ _ _ us hl=>len3 us hl fun _ _ _=>rfl
  have h_stood:Has K mg "_law_stood" sStood ["_law_pot_here", "_law_sides_here"]:=i22.has X G fun _ _ _ _ _ _ us hl=>len2 us hl fun _ _=>rfl
  have h_book:Has K mg "_law_book" sBook ["_law_pot_here", "_law_names_here"]:=i23.has X G fun _ _ _ _ _ _ us hl=>len2 us hl fun _ _=>rfl
  have h_model:Has K mg "_law_model" sModel ["_law_book_here"]:=i24.has X G fun _ _ _ _ _ _ us hl=>len1 us hl fun _=>rfl
  have h_as_book:Has K mg "_law_as_book" sAsBook ["_law_model_here"]:=i25.has X G fun _ _ _ _ _ _ us hl=>len1 us hl fun _=>rfl
  have h_side:Has K mg "_law_side" sSide ["_law_model_here", "_law_name"]:=i26.has X G fun _ _ _ _ _ _ us hl=>len2 us hl fun _ _=>rfl
  have h_put_in:Has K mg "_law_put_in" sPutIn ["_law_model_here", "_law_side_here", "_law_behind", "_law_name"]:=i27.has X G fun _ _ _ _ _ _ us hl=>len4 us hl fun _ _ _ _=>rfl
  have h_bad_place:Has K mg "_law_bad_place" sBadPlace ["_law_model_here", "_law_side_here", "_law_behind"]:=i28.has X G fun _ _ _ _ _ _ us hl=>len3 us hl fun _ _ _=>rfl
  have h_put:Has K mg "_law_put" sPut ["_law_model_here", "_law_deed_here"]:=i29.has X G fun _ _ _ _ _ _ us hl=>len2 us hl fun _ _=>rfl
  have h_move:Has K mg "_law_move" sMove ["_law_model_here", "_law_deed_here"]:=i30.has X G fun _ _ _ _ _ _ us hl=>len2 us hl fun _ _=>rfl
  have h_do:Has K mg "_law_do" sDo ["_law_model_here", "_law_deed_here"]:=i31.has X G fun _ _ _ _ _ _ us hl=>len2 us hl fun _ _=>rfl
  have h_pick:Has K mg "_law_pick" sPick ["_law_pot_here", "_law_some_here", "_law_others"]:=i32.has X G fun _ _ _ _ _ _ us hl=>len3 us hl fun _ _ _=>rfl
  have h_deed:Has K mg "_law_deed" sDeed ["_law_pot_here", "_law_model_here", "_law_spare"]:=i33.has X G fun _ _ _ _ _ _ us hl=>len3 us hl fun _ _ _=>rfl
  have h_tried:Has K mg "_law_tried" sTried ["_law_book_here", "_law_deed_here"]:=i34.has X G fun _ _ _ _ _ _ us hl=>len2 us hl fun _ _=>rfl
  have h_kinds:Has K mg "_law_kinds" sKinds ["_law_thing"]:=i35.has X G fun _ _ _ _ _ _ us hl=>len1 us hl fun _=>rfl
  have h_walked:Has K mg "_law_walked" sWalked ["_law_pot_here", "_law_book_here", "_law_spare", "_law_many"]:=i36.has X G fun _ _ _ _ _ _ us hl=>len4 us hl fun _ _ _ _=>rfl
  have F37:=fun_mk (st:=sLaw) l37 c37 k37
  have m_len:=PySem.W.mg_none_of X G z_len
  have m_int:=PySem.W.mg_none_of X G z_int
  have m_range:=PySem.W.mg_none_of X G z_range
  have m_isinstance:=PySem.W.mg_none_of X G z_isinstance
  have m_tuple:=PySem.W.mg_none_of X G z_tuple
  have m_bool:=PySem.W.mg_none_of X G z_bool
  have m_str:=PySem.W.mg_none_of X G z_str
  have m_list:=PySem.W.mg_none_of X G z_list
  have m_sorted:=PySem.W.mg_none_of X G z_sorted
  have m_min:=PySem.W.mg_none_of X G z_min
  have m_ValueError:=PySem.W.mg_none_of X G z_ValueError
  have m_all:=PySem.W.mg_none_of X G z_all
  have m_set:=PySem.W.mg_none_of X G z_set
  have q_DOERS:=PySem.W.mg_of X G p_DOERS
  have q_NoPart:=PySem.W.mg_of X G p_NoPart
  have q_NoPlace:=PySem.W.mg_of X G p_NoPlace
  have q_Twice:=PySem.W.mg_of X G p_Twice
  have q_TwainError:=PySem.W.mg_of X G p_TwainError
  have q_Apart:=PySem.W.mg_of X G p_Apart
  have q_Linked:=PySem.W.mg_of X G p_Linked
  have q_NoText:=PySem.W.mg_of X G p_NoText
  have q_NoDeed:=PySem.W.mg_of X G p_NoDeed
  have hMK:=mgk X G
  have kc0:KC K a_TwainError (a7 a_NoPart a_NoPlace a_Twice a_Linked a_Apart a_NoDeed a_NoText) 0:=⟨b0k.ek,b0k.un,b0k.ii,b0k.iv,fun i h1 h2=>match i,h1,h2 with | 0,_,h=>absurd rfl h | 1,_,_=>n01k | 2,_,_=>n02k | 3,_,_=>n03k | 4,_,_=>n04k | 5,_,_=>n05k | 6,_,_=>n06k⟩
  have kc1:KC K a_TwainError (a7 a_NoPart a_NoPlace a_Twice a_Linked a_Apart a_NoDeed a_NoText) 1:=⟨b1k.ek,b1k.un,b1k.ii,b1k.iv,fun i h1 h2=>match i,h1,h2 with | 0,_,_=>n10k | 1,_,h=>absurd rfl h | 2,_,_=>n12k | 3,_,_=>n13k | 4,_,_=>n14k | 5,_,_=>n15k | 6,_,_=>n16k⟩
  have kc2:KC K a_TwainError (a7 a_NoPart a_NoPlace a_Twice a_Linked a_Apart a_NoDeed a_NoText) 2:=⟨b2k.ek,b2k.un,b2k.ii,b2k.iv,fun i h1 h2=>match i,h1,h2 with | 0,_,_=>n20k | 1,_,_=>n21k | 2,_,h=>absurd rfl h | 3,_,_=>n23k | 4,_,_=>n24k | 5,_,_=>n25k | 6,_,_=>n26k⟩
  have hKC:∀ e,e≤2→KC K a_TwainError (a7 a_NoPart a_NoPlace a_Twice a_Linked a_Apart a_NoDeed a_NoText) e∧(c3 a_NoPart a_NoPlace a_Twice) e=(a7 a_NoPart a_NoPlace a_Twice a_Linked a_Apart a_NoDeed a_NoText) e:=fun e h=>match e,h with | 0,_=>⟨kc0,rfl⟩ | 1,_=>⟨kc1,rfl⟩ | 2,_=>⟨kc2,rfl⟩
  refine ⟨PySem.W.fnOf "law" "law" (defArgs sLaw) (defBody sLaw) (defScope sLaw) .none kV37 dc37 pm37 an37 cd37 ct37,fun s v=>.of_eq rfl,fun base _ _=>?_⟩
  have C_pot:=c_pot (P:=l.prog) (w:=w) (base:=base) h_pot
  have C_next:=c_next (P:=l.prog) (w:=w) (base:=base) h_next
  have C_count:=c_count (P:=l.prog) (w:=w) (base:=base) h_count C_next m_int
  have C_taken:=c_taken (P:=l.prog) (w:=w) (base:=base) h_taken C_next m_len
  have C_moments:=c_moments (P:=l.prog) (w:=w) (base:=base) h_moments C_next m_int m_range m_tuple
  have C_some:=c_some (P:=l.prog) (w:=w) (base:=base) h_some C_count C_taken m_min m_len m_tuple m_sorted m_range
  have C_text:=c_text (P:=l.prog) (w:=w) (base:=base) h_text C_next m_range
  have C_sides:=c_sides (P:=l.prog) (w:=w) (base:=base) h_sides C_count C_moments C_text C_taken m_range m_tuple
  have C_names:=c_names (P:=l.prog) (w:=w) (base:=base) h_names C_next m_range
  have C_stood:=c_stood (P:=l.prog) (w:=w) (base:=base) h_stood C_count C_some C_moments C_next m_range m_tuple m_sorted
  have C_book:=c_book (P:=l.prog) (w:=w) (base:=base) h_book C_sides C_stood
  have C_part_of:=c_part_of (P:=l.prog) (w:=w) (base:=base) h_part_of q_NoPart x_NoPart
  have C_side_of:=c_side_of (P:=l.prog) (w:=w) (base:=base) h_side_of C_part_of
  have C_names_of:=c_names_of (P:=l.prog) (w:=w) (base:=base) h_names_of m_tuple
  have C_has_part:=c_has_part (P:=l.prog) (w:=w) (base:=base) h_has_part C_names_of
  have C_replaced:=c_replaced (P:=l.prog) (w:=w) (base:=base) h_replaced
  have C_parts_without:=c_parts_without (P:=l.prog) (w:=w) (base:=base) h_parts_without m_tuple
  have C_parts_with:=c_parts_with (P:=l.prog) (w:=w) (base:=base) h_parts_with
  have C_check_behind:=c_check_behind (P:=l.prog) (w:=w) (base:=base) h_check_behind q_NoPlace x_NoPlace C_side_of
  have C_check_new:=c_check_new (P:=l.prog) (w:=w) (base:=base) h_check_new q_Twice x_Twice C_has_part
  have C_put_done:=c_put_done (P:=l.prog) (w:=w) (base:=base) h_put_done C_check_behind C_check_new C_replaced C_parts_with
  have C_move_done:=c_move_done (P:=l.prog) (w:=w) (base:=base) h_move_done q_NoPlace x_NoPlace C_side_of C_check_behind C_parts_without C_replaced C_parts_with C_part_of (a_Twice:=a_Twice)
  have C_done:=c_done (P:=l.prog) (w:=w) (base:=base) h_done q_DOERS kt_DOERS hMK C_put_done C_move_done
  have C_side:=c_side (P:=l.prog) (w:=w) (base:=base) h_side
  have C_put_in:=c_put_in (P:=l.prog) (w:=w) (base:=base) h_put_in
  have C_bad_place:=c_bad_place (P:=l.prog) (w:=w) (base:=base) h_bad_place C_side
  have C_put:=c_put (P:=l.prog) (w:=w) (base:=base) h_put C_bad_place C_side C_put_in
  obtain ⟨f_put,qf_put,Fn_put⟩:=(Cal.to1 C_put).fn
  have C_move:=c_move (P:=l.prog) (w:=w) (base:=base) h_move C_side C_bad_place C_put_in
  obtain ⟨f_move,qf_move,Fn_move⟩:=(Cal.to1 C_move).fn
  have C_do:=c_do (P:=l.prog) (w:=w) (base:=base) h_do qf_move Fn_move qf_put Fn_put
  have C_tried:=c_tried (P:=l.prog) (w:=w) (base:=base) h_tried q_TwainError x_TwainError q_Twice q_NoPlace q_NoPart q_Apart q_Linked q_NoText q_NoDeed C_done m_isinstance m_ValueError
  have C_kinds:=c_kinds (P:=l.prog) (w:=w) (base:=base) h_kinds m_isinstance m_tuple m_all m_bool m_int m_str 6
  have C_pick:=c_pick (P:=l.prog) (w:=w) (base:=base) h_pick C_next m_len
  have C_deed:=c_deed (P:=l.prog) (w:=w) (base:=base) h_deed C_moments C_next C_pick C_text C_side m_int
  have C_model:=c_model (P:=l.prog) (w:=w) (base:=base) h_model m_list
  have C_as_book:=c_as_book (P:=l.prog) (w:=w) (base:=base) h_as_book m_tuple m_sorted m_set
  have C_walked:=c_walked (P:=l.prog) (w:=w) (base:=base) h_walked C_model C_deed C_tried C_do C_kinds C_as_book C_side m_range
  exact ok_law F37 C_pot C_names C_book C_walked hKC
theorem walk {l:PySem.W.OpenLaw} {q:Program} {loose:List Str} {XP:(Str→Option Value)→Heap→Prop} {YP:World→Heap→Prop} {d:DefRec} {K:Params→PySem.W.Frag} (hn:l.most=some 63) (hdf:d.params.defaults=[])
    (hY:∀ (w:World) (h:Heap),YP w h→(K w.params).In h)
    (F:∀ (w:World) (mg:Str→Option Value) (fa:Addr) (h:Heap),(K w.params).In h→h.Ns mainGlobals mg→mg d.name=some (.ref fa) →
      ∃ fd:FuncData,(∀ (s:Shared) (u:Value),BindsTo s fd ⟨[u],[]⟩ [("_law_script",u)])∧∀ base:Heap,(K w.params).In base→base.Ns mainGlobals mg→FnOk l.prog w (K w.params) mg base CX0 8 fa fd ["_law_script"] (spLaw (K w.params))) :
    PySem.W.WalkO q loose XP YP l.row.toRowW d [] (fun f vs=>PySem.call f vs) :=
  L2.walk_of (n:=63) (k:=8) (x:="_law_script") (CX:=fun _=>CX0) (sp:=fun w=>spLaw (K w.params)) hn (by decide) hdf ⟨rfl,by decide,by decide⟩ hY F (fun _ _ a ns hl _ hS=>⟨a,ns,rfl,hS,hl,fun _=>rfl⟩) fun _ _ _ _ _ z=>z
end Mine
def PySem.W.Fast.tw10573116659414782736:Unit:=()
def PySem.W.Fast.tw14593656012103521399:Unit:=()
def PySem.W.Fast.tw11806656691230980556:Unit:=()
def PySem.W.Fast.tw6493703936872812321:Unit:=()
def PySem.W.Fast.tw1811136844178907954:Unit:=()
def PySem.W.Fast.tw9366366320572294926:Unit:=()
def PySem.W.Fast.tw2881032440259300378:Unit:=()
def PySem.W.Fast.tw16906558916298918357:Unit:=()
def PySem.W.Fast.tw3704144629625662619:Unit:=()
def PySem.W.Fast.tw934733912128630981:Unit:=()
def PySem.W.Fast.tw15930627229321987784:Unit:=()
def PySem.W.Fast.tw14703498761904107685:Unit:=()
def PySem.W.Fast.tw15356234886597019214:Unit:=()
def PySem.W.Fast.tw9729665191843425370:Unit:=()
def PySem.W.Fast.tw17295025159953096742:Unit:=()
def PySem.W.Fast.tw12989959320184483697:Unit:=()
def PySem.W.Fast.tw4690903771796445727:Unit:=()
def PySem.W.Fast.tw6505412007026181477:Unit:=()
def PySem.W.Fast.tw18099184184184888472:Unit:=()
def PySem.W.Fast.tw14620223836998407937:Unit:=()
def PySem.W.Fast.tw6758735808847824619:Unit:=()
def PySem.W.Fast.tw13628192258785015727:Unit:=()
def PySem.W.Fast.tw12716096806701619889:Unit:=()
def PySem.W.Fast.tw5696051858400458780:Unit:=()
def PySem.W.Fast.tw2068337750487453683:Unit:=()
def PySem.W.Fast.tw16774671755871614258:Unit:=()
def PySem.W.Fast.tw15517555370348637200:Unit:=()
def PySem.W.Fast.tw11131754074506552460:Unit:=()
def PySem.W.Fast.tw8364094862033491684:Unit:=()
def PySem.W.Fast.tw15713565110190451199:Unit:=()
def PySem.W.Fast.tw17805530075577079313:Unit:=()
def PySem.W.Fast.tw4729994727107956246:Unit:=()
def PySem.W.Fast.tw4595606815896688685:Unit:=()
def PySem.W.Fast.tw8109681551655902635:Unit:=()
def PySem.W.Fast.tw2834295596206318909:Unit:=()
def PySem.W.Fast.tw9259622076681903313:Unit:=()
def PySem.W.Fast.tw15540446761989545376:Unit:=()
def PySem.W.Fast.tw14970925575987365966:Unit:=()
def PySem.W.Fast.tw17512932948482080914:Unit:=()
def PySem.W.Fast.tw1556748365480403392:Unit:=()
def PySem.W.Fast.tw6408881987793927920:Unit:=()
def PySem.W.Fast.tw8621773107397671733:Unit:=()
def PySem.W.Fast.tw2566019044504214545:Unit:=()
def PySem.W.Fast.tw8995415247171082460:Unit:=()
def PySem.W.Fast.tw17406732408554608526:Unit:=()
def PySem.W.Fast.tw7498321297592982289:Unit:=()
def PySem.W.Fast.tw873960421907600516:Unit:=()
def PySem.W.Fast.tw3446327895852587138:Unit:=()
def PySem.W.Fast.tw15219609058222925700:Unit:=()
def PySem.W.Fast.tw17405103199324698023:Unit:=()
def PySem.W.Fast.tw6453252162117385175:Unit:=()
def PySem.W.Fast.tw4351375559873023827:Unit:=()
def PySem.W.Fast.tw16334257242182111915:Unit:=()
def PySem.W.Fast.tw13913537998377546072:Unit:=()
def PySem.W.Fast.tw3798815025497584615:Unit:=()
def PySem.W.Fast.tw17908658736368554378:Unit:=()
def PySem.W.Fast.tw707921707601480045:Unit:=()
def PySem.W.Fast.tw2074880167656417638:Unit:=()
def PySem.W.Fast.tw10103100333957967091:Unit:=()
def PySem.W.Fast.tw13450933065420174811:Unit:=()
def PySem.W.Fast.tw8515557795099171644:Unit:=()
def PySem.W.Fast.tw2861934689794384503:Unit:=()
def PySem.W.Fast.tw8146276160024845925:Unit:=()
def PySem.W.Fast.tw10038252282619550139:Unit:=()
def PySem.W.Fast.tw7525735753062642397:Unit:=()
def PySem.W.Fast.tw21625643053772145:Unit:=()
def PySem.W.Fast.tw16081358248191414518:Unit:=()
def PySem.W.Fast.tw13773940660609179126:Unit:=()
def PySem.W.Fast.tw2318075348964400246:Unit:=()
def PySem.W.Fast.tw6043669259167851423:Unit:=()
def PySem.W.Fast.tw9659567303776617459:Unit:=()
def PySem.W.Fast.tw5017277277771582085:Unit:=()
def PySem.W.Fast.tw7589733073129612866:Unit:=()
def PySem.W.Fast.tw7923415577574374571:Unit:=()
def PySem.W.Fast.tw3415660513950116263:Unit:=()
def PySem.W.Fast.tw17847605329145680948:Unit:=()
def PySem.W.Fast.tw15247699622835854242:Unit:=()
def PySem.W.Fast.tw269489738665685238:Unit:=()
def PySem.W.Fast.tw16417562673031035092:Unit:=()
def PySem.W.Fast.tw15178825123918985291:Unit:=()
def PySem.W.Fast.tw1276781413458804422:Unit:=()
def PySem.W.Fast.tw14591598637613558220:Unit:=()
def PySem.W.Fast.tw12083133536603745613:Unit:=()
def PySem.W.Fast.tw16089857019543063643:Unit:=()
def PySem.W.Fast.tw16687559070696751621:Unit:=()
def PySem.W.Fast.tw17066151613172131177:Unit:=()
def PySem.W.Fast.tw6970969399634123021:Unit:=()
def PySem.W.Fast.tw7873748901377258896:Unit:=()
def PySem.W.Fast.tw12483399110025000927:Unit:=()
def PySem.W.Fast.tw4450981398002219123:Unit:=()
def PySem.W.Fast.tw2654631295377312746:Unit:=()
def PySem.W.Fast.tw16500630434068717664:Unit:=()
def PySem.W.Fast.tw16469006739001158866:Unit:=()
def PySem.W.Fast.tw9234179582061588715:Unit:=()
def PySem.W.Fast.tw2214277119210366424:Unit:=()
def PySem.W.Fast.tw5364787807695860979:Unit:=()
def PySem.W.Fast.tw14286269050673227877:Unit:=()
def PySem.W.Fast.tw1664468924458332809:Unit:=()
def PySem.W.Fast.tw13344354847823679680:Unit:=()
def PySem.W.Fast.tw7973730997508856587:Unit:=()
def PySem.W.Fast.tw8928188818724660997:Unit:=()
def PySem.W.Fast.tw7387774651444466914:Unit:=()
def PySem.W.Fast.tw9622341813985234979:Unit:=()
def PySem.W.Fast.tw9895565058473873597:Unit:=()
def PySem.W.Fast.tw8630407372178576570:Unit:=()
def PySem.W.Fast.tw3737037598261054134:Unit:=()
def PySem.W.Fast.tw16391111692191034683:Unit:=()
def PySem.W.Fast.tw9123295816649871083:Unit:=()
def PySem.W.Fast.tw254044869132423871:Unit:=()
def PySem.W.Fast.tw16274952318317184466:Unit:=()
def PySem.W.Fast.tw17220471387854630268:Unit:=()
def PySem.W.Fast.tw7108921198621426952:Unit:=()
def PySem.W.Fast.tw13816309664145807194:Unit:=()
def PySem.W.Fast.tw2434596341188083582:Unit:=()
def PySem.W.Fast.tw10147339031071357683:Unit:=()
def PySem.W.Fast.tw14654798209129576566:Unit:=()
def PySem.W.Fast.tw9985353048694168674:Unit:=()
def PySem.W.Fast.tw11436954163091313148:Unit:=()
def PySem.W.Fast.tw6049321392761142217:Unit:=()
def PySem.W.Fast.tw10034369409762977529:Unit:=()
def PySem.W.Fast.tw12655388944321865720:Unit:=()
def PySem.W.Fast.tw1744135731935533995:Unit:=()
def PySem.W.Fast.tw16198780623286899586:Unit:=()
def PySem.W.Fast.tw12158612362031420937:Unit:=()
def PySem.W.Fast.tw14200077038474780448:Unit:=()
def PySem.W.Fast.tw10439301848969211:Unit:=()
def PySem.W.Fast.tw562377004534210690:Unit:=()
def PySem.W.Fast.tw13536069866820684099:Unit:=()
def PySem.W.Fast.tw8143478963418011832:Unit:=()
def PySem.W.Fast.tw8374909013959971805:Unit:=()
def PySem.W.Fast.tw13006087116824049281:Unit:=()
def PySem.W.Fast.tw11748406634161586346:Unit:=()
def PySem.W.Fast.tw7018341036000458145:Unit:=()
def PySem.W.Fast.tw4983397653455084064:Unit:=()
def PySem.W.Fast.tw1831386239824776081:Unit:=()
def PySem.W.Fast.tw364770483579040225:Unit:=()
def PySem.W.Fast.tw2541305988765812834:Unit:=()
def PySem.W.Fast.tw11861448338218508099:Unit:=()
def PySem.W.Fast.tw13025483662670029824:Unit:=()
def PySem.W.Fast.tw5240378384613716761:Unit:=()
def PySem.W.Fast.tw9836008377415257114:Unit:=()
def PySem.W.Fast.tw16663050360995933546:Unit:=()
open PySem PySem.W PyProof.Rows
set_option maxRecDepth 100000 in
set_option maxHeartbeats 0 in
theorem PySem.Challenge.cw_twainkeep_k19_put_and_moved_holds : PySem.Challenge.rw_twainkeep_k19_put_and_moved.Holds := by
  w_on; o_law; k_head; (case hw=>w_witness2)
  k_fill
  refine Mine.walk (l:=PySem.Challenge.rw_twainkeep_k19_put_and_moved) rfl rfl (fun w h Y=>PySem.W.kIn_of Y) ?F
  case F =>
    intro w mg fa h KX G hmg
    refine' Mine.all_mk KX G hmg ?i1 ?i2 ?i3 ?i4 ?i5 ?i6 ?i7 ?i8 ?i9 ?i10 ?i11 ?i12 ?i13 ?i14 ?i15 ?i16 ?i17 ?i18 ?i19 ?i20 ?i21 ?i22 ?i23 ?i24 ?i25 ?i26 ?i27 ?i28 ?i29 ?i30 ?i31 ?i32 ?i33 ?i34 ?i35 ?i36 ?a37 ?l37 ?c37 ?k37 ?p_DOERS ?kt_DOERS ?p_NoPart ?p_NoPlace ?p_Twice ?p_TwainError ?p_Apart ?p_Linked ?p_NoText ?p_NoDeed ?x_NoPart ?x_NoPlace ?x_Twice ?x_TwainError ?b0k ?n01k ?n02k ?n03k ?n04k ?n05k ?n06k ?b1k ?n10k ?n12k ?n13k ?n14k ?n15k ?n16k ?b2k ?n20k ?n21k ?n23k ?n24k ?n25k ?n26k ?z_len ?z_int ?z_range ?z_isinstance ?z_tuple ?z_bool ?z_str ?z_list ?z_sorted ?z_min ?z_ValueError ?z_all ?z_set
    case i1 | i2 | i3 | i4 | i5 | i6 | i7 | i8 | i9 | i10 | i11 | i12 | i13 | i14 | i15 | i16 | i17 | i18 | i19 | i20 | i21 | i22 | i23 | i24 | i25 | i26 | i27 | i28 | i29 | i30 | i31 | i32 | i33 | i34 | i35 | i36=>refine' L2.fni ?a ?l ?c ?k; (case a=>k_is); (case l=>k_is); (case c=>k_is); (case k=>k_is)
    case a37 | l37 | c37 | k37 | p_DOERS | p_NoPart | p_NoPlace | p_Twice | p_TwainError | p_Apart | p_Linked | p_NoText | p_NoDeed | z_len | z_int | z_range | z_isinstance | z_tuple | z_bool | z_str | z_list | z_sorted | z_min | z_ValueError | z_all | z_set=>k_is
    case kt_DOERS=>(unfold L2.KFT; kernel_rfl)
    case x_NoPart | x_NoPlace | x_Twice | x_TwainError=>first | k_exc | k_is
    case b0k | b1k | b2k=>exact ⟨⟨by k_is,by k_is,by k_is,by k_is,by k_is,by k_is⟩,by k_is,by k_is,by k_is⟩
    case n01k | n02k | n03k | n04k | n05k | n06k | n10k | n12k | n13k | n14k | n15k | n16k | n20k | n21k | n23k | n24k | n25k | n26k=>exact L2.kin_not_of (by decide) (by k_is) (by k_is) (by k_is)
